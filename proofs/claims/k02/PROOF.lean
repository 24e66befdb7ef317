import PyProof.Rows.All
import Wide.All
import OpenK.AllK
import Wide.FinOn
import HandS.ForMost
import HandS.SetBool
import HandS.Strs
import HandS.Evl
import HandS.IsInst
import HandS.Flow
import HandS.Style
import HandS.Wide
import HandS.Deep
import HandS.Defaults
import HandS.NoneIn
import HandS.Small
import HandS.HeadHook3
import HandS.CallLocal
import HandS.Star
import HandS.Zip
import PyProof.RulesMatch
import PySem.Challenge.RW_timeheld_k02_whole_one_change
import HandS.Conv
import HandS.TupAny
import HandS.WordsExc
import HandS.Head0
import HandS.Head1
import HandS.Head2
import HandS.HeadEnd
import HandS.HeadHook1
import HandS.HeadHook2
set_option Elab.async false
set_option linter.all false
set_option maxRecDepth 100000
set_option maxHeartbeats 4000000
/-! A set comprehension whose elements are ints. -/
namespace TH
open PySem PySem.Spec PyProof.Rows L2 PpSet
/-- one turn's element joins the set at D -/
def Join (w : World) (D : Addr) (Nx : Hp → Prop) : VK := fun y G =>
  ∃ (k : Int) (S : Int → Bool) (c : Nat), y = .int k ∧ G D = some (SetO w D S c) ∧ c + 1 < scanBound ∧
    Nx (upd G D (SetO w D (fun j => S j || decide (j = k)) (if S k = true then c else c + 1)))
/-- one turn of the block -/
def TurnSc (w : World) (g : TG) (tt : TT) (te : TE) (vs : List Nat) (σ : L2.St) (D : Addr) (Nx : Hp → Prop) : V → Hp → Prop := fun x G =>
  g x (wipe σ vs) G fun σ2 G2 => wipe σ2 vs = wipe σ vs ∧
    tt σ2 G2 fun b G3 => if b = true then te σ2 G3 (Join w D Nx) else Nx G3
def LoopSc (w : World) (g : TG) (tt : TT) (te : TE) (vs : List Nat) (σ : L2.St) (D : Addr) (J : It) (H1 : Hp) (Qd : Hp → Prop) : Prop :=
  ∃ W : Nat → Nat → Hp → Prop, (∃ m, W 0 m (upd H1 D (SetO w D (fun _ => false) 0))) ∧
    ∀ i m G, W i m G → (J.stop i G ∧ Qd G) ∨
      (J.go i G ∧ ∃ Nx : Hp → Prop, (∀ G', Nx G' → ∃ m', m' < m ∧ W (i + 1) m' G') ∧
        ∀ x G', J.yld i G x G' → TurnSc w g tt te vs σ D Nx x G')
def tScI (w : World) (wi : TI) (g : TG) (tt : TT) (te : TE) (vs : List Nat) : TE := fun σ H Q =>
  wi σ H fun J H1 => ∀ D, H1 D = none → LoopSc w g tt te vs σ D J H1 (Q (.ref D))
section
variable {X : Cx}
theorem join_add {pins : List (Addr × Obj)} {σ : L2.St} {G : Hp} {s : Shared} {D : Addr} {Nx : Hp → Prop} {y : V} {z : Value} {Q : Value → Shared → Prop}
    (I : Inv X pins σ G s) (r : RelV y z) (j : Join X.w D Nx y G)
    (k : ∀ s' G', Inv X pins σ G' s' → Nx G' → ∀ v, Q v s') :
    wpAny (model X.prog X.w) X.A (call (.builtin "set.add") [.ref D, z]) Q X.xe s := by
  obtain ⟨i, S, c, rfl, hD, hc, nx⟩ := j
  refine thn (mt_sadd pins s σ G (.ref D) [.int i] (.ref D) [z] (fun _ G' => Nx G') I rfl (.cons r .nil) ⟨D, i, S, c, rfl, rfl, hD, hc, nx⟩) ?_
  rintro v s' ⟨x, G', I', -, q⟩
  exact k s' G' I' q v
variable {elt tg iter : Expr} {ifs : List Expr} {scope : Scope} {own : List (PySem.Str × Nat)} {pos pos' : Pos} {wi : TI} {g : TG} {tt : TT} {te : TE}
theorem scI_core {pins : List (Addr × Obj)} {s : Shared} {σ : L2.St} {H : Hp} {Q : VK} {use : Option (Value → Sem Unit)} {Qf : Value → Shared → Prop}
    (hc : X.calm = true) (hN : X.N.Nodup) (I : Inv X pins σ H s)
    (hi : PI X tg iter wi) (ok : BlkOk X.N X.env.scope scope own)
    (hg : ∀ (s : Shared) (H : Hp) (C : Addr) (cl : List (PySem.Str × Addr)) (fp : List Addr),
      PG (X.blk s H scope (compEnvC scope cl C X.env) fp) tg g)
    (ht : ∀ (s : Shared) (H : Hp) (C : Addr) (cl : List (PySem.Str × Addr)) (fp : List Addr),
      PTs (X.blk s H scope (compEnvC scope cl C X.env) fp) ifs tt)
    (he : ∀ (s : Shared) (H : Hp) (C : Addr) (cl : List (PySem.Str × Addr)) (fp : List Addr),
      PE (X.blk s H scope (compEnvC scope cl C X.env) fp) elt te)
    (hs : ∀ x, foldedSetIterable iter X.env x = pure x)
    (h : tScI X.w wi g tt te (own.map (·.2)) σ H Q)
    (fin : ∀ D C s' m G, Inv X pins σ G s' → Q (.ref D) G → s'.heap.Ns C m → FpOk X pins G C →
      compPost (model X.prog X.w) X.A X.xe use Qf (.ref D) C (.ok .next) s') :
    wpAny (model X.prog X.w) X.A (comprehension (.SetComp elt [⟨tg, iter, ifs, 0⟩] scope pos) scope X.env pos'
      (newSet (.type "set")) false (eval iter X.env) use) Qf X.xe s := by
  have cellsOk : ∀ y ∈ scope.names, y.2 = .free → ∃ c, X.env.cells.lookup y.1 = some c := fun y hy e =>
    (ok.free y hy e).elim (fun k => I.ok.has _ (.inl k)) (fun k => I.ok.has _ (.inr k))
  refine wpAny_comprehension_free (use := use) rfl hs (closure_ok cellsOk) ok.kind (fun y hy e => by rw [ok.uniq y hy, e]) ?_
  refine thn (hi.run pins s σ H _ I h) fun xv s1 hx => thn hx ?_
  rintro itv s2 ⟨it, fp, tn, J, H2, rfl, I2, T, st2, f2, q⟩
  refine newSet_ok (newEnv_comp ?_)
  generalize hD : s2.heap.objs.size = D
  have free2 : H2 D = none := I2.hok.fresh (Nat.le_of_eq hD)
  obtain ⟨W, ⟨m0, w0⟩, turn⟩ := q D free2
  generalize hob : ({ cls := .type "set", dict := none, data := .set #[] 0 (.fresh 0 0 (!X.w.params.followText "set-order")) } : Obj) = ob
  generalize hE : SetO X.w D (fun _ => false) 0 = emp at w0
  have I3 : Inv X pins σ (upd H2 D emp) { s2 with heap := s2.heap.push ob } := by
    subst hob hE
    refine I2.laid (t' := s2.toks) (fun b o e => Heap.get?_push_of_some _ e) (Nat.le_of_eq hD) ?_
    subst hD
    exact setO_new (setR_fresh X.w)
  generalize hs3 : ({ s2 with heap := s2.heap.push ob } : Shared) = s3 at I3
  have h3 : s3.heap = s2.heap.push ob := by rw [← hs3]
  have older : ∀ b ∈ fp, b < s2.heap.objs.size := fun b hb =>
    have ⟨_, e, _⟩ := T.obj _ _ st2 b hb
    Heap.lt_size e
  have f3 : ∀ b ∈ fp, FpOk X pins (upd H2 D emp) b ∧ b < s3.heap.objs.size := by
    intro b hb
    have lt := older b hb
    have ne : b ≠ D := by rw [← hD]; exact Nat.ne_of_lt lt
    refine ⟨⟨(upd_ne ne).trans (f2 b hb).1, (f2 b hb).2⟩, ?_⟩
    rw [h3, Heap.size_push]
    exact Nat.lt_succ_of_lt lt
  have st3 : tn 0 s3.heap := T.keep _ _ _ st2 fun b _ o e => by
    rw [h3]
    exact Heap.get?_push_of_some _ e
  have I4 := block_start I3 ok hN f3
  have pg := hg s3 (upd H2 D emp) s3.heap.objs.size (cellsFrom (s3.heap.objs.size + 1) scope.names (cloFrom X.env.cells scope.names [])) fp
  have pt := ht s3 (upd H2 D emp) s3.heap.objs.size (cellsFrom (s3.heap.objs.size + 1) scope.names (cloFrom X.env.cells scope.names [])) fp
  have pe := he s3 (upd H2 D emp) s3.heap.objs.size (cellsFrom (s3.heap.objs.size + 1) scope.names (cloFrom X.env.cells scope.names [])) fp
  show codeAny _ _ (.compStart (.SetComp elt [⟨tg, iter, ifs, 0⟩] scope pos) 0 (.ref it) (.ref D)
      (compEnvC scope (cellsFrom (s3.heap.objs.size + 1) scope.names (cloFrom X.env.cells scope.names [])) s3.heap.objs.size X.env))
    (compPost (model X.prog X.w) X.A X.xe use Qf (.ref D) s3.heap.objs.size)
    { s3 with heap := pushCells (s3.heap.push { cls := .type "dict", data := .dict #[] }) scope.names }
  have out3 : ∀ b ∈ fp, (upd H2 D emp) b = none := fun b hb => (f3 b hb).1.1
  generalize hce : compEnvC scope (cellsFrom (s3.heap.objs.size + 1) scope.names (cloFrom X.env.cells scope.names [])) s3.heap.objs.size X.env = ce at I4 pg pt pe ⊢
  have locC : ce.locals = s3.heap.objs.size := by subst hce; rfl
  generalize hH3 : upd H2 D emp = H3 at I3 I4 pg pt pe w0 out3 f3
  generalize hs4 : ({ s3 with heap := pushCells (s3.heap.push { cls := .type "dict", data := .dict #[] }) scope.names } : Shared) = s4 at I4 ⊢
  have st4 : tn 0 s4.heap := T.keep _ _ _ st3 fun b _ o e => by
    rw [← hs4]
    exact pushCells_keeps _ _ _ _ (Heap.get?_push_of_some _ e)
  have itOk : ∀ {σ' : L2.St} {G : Hp} {s' : Shared}, Inv (X.blk s3 H3 scope ce fp) [] σ' G s' → (∀ b ∈ fp, G b = none) →
      ∀ b ∈ fp, FpOk (X.blk s3 H3 scope ce fp) [] G b := fun {σ' G s'} I' out b hb =>
    ⟨out b hb, (I'.ok.exf b hb).1, I'.ok.exfs b hb, .inl hb, fun x c e => (I'.ok.exf b hb).2 x c e, fun p hp => nomatch (show p ∈ ([] : List (Addr × Obj)) from hp)⟩
  have loop : codeAny (model X.prog X.w) X.A (.compLoop (.SetComp elt [⟨tg, iter, ifs, 0⟩] scope pos) 0 (.ref it) (.ref D) ce)
      (compPost (model X.prog X.w) X.A X.xe use Qf (.ref D) s3.heap.objs.size) s4 := by
    refine compLoopS_any (fun n s' => ∃ i G, Inv (X.blk s3 H3 scope ce fp) [] (wipe σ (own.map (·.2))) G s' ∧
      tn i s'.heap ∧ (∀ b ∈ fp, G b = none) ∧ W i n G) ?_ m0 ⟨0, H3, I4, st4, out3, w0⟩
    rintro n s5 ⟨i, G5, I5, st5, out5, w5⟩
    obtain ⟨stop, qq⟩ | ⟨go, Nx, hNx, step⟩ := turn i n G5 w5
    · have td := T.done (X.blk s3 H3 scope ce fp) rfl rfl rfl hc i [] s5 _ G5 (fun _ _ => False) I5 (itOk I5 out5) st5 stop
      refine thnF td ?_
      rintro r s6 ⟨rfl, I6⟩
      have I7 : Inv X pins σ G5 s6 := I3.call' (ch := fp) I6.os I6.base I6.hok I6.bare fun b hb =>
        have z := (f3 b hb).1
        ⟨z.2.2.2.1, z.2.1, z.2.2.2.2.1, z.2.2.2.2.2⟩
      have out : G5 s3.heap.objs.size = none := locC ▸ I6.free
      obtain ⟨m, hn, -⟩ := I6.loc
      have hn2 : s6.heap.Ns s3.heap.objs.size m := locC ▸ hn
      exact fin D s3.heap.objs.size s6 m G5 I7 qq hn2 (I3.fpOk (Nat.le_refl _) out)
    · have ti := T.item (X.blk s3 H3 scope ce fp) rfl rfl rfl hc i [] s5 _ G5 (fun _ _ => False) I5 (itOk I5 out5) st5 go
      refine thnF ti ?_
      rintro r s6 ⟨u, rfl, h6⟩
      refine thnF h6 ?_
      rintro _ s7 ⟨x, G7, I7, r7, y7, st7, out7⟩
      have I7' := I7.pinned (itOk I7 out7) (T.obj _ _ st7)
      refine thnF (pg.run _ s7 _ G7 x u _ I7' r7 (step x G7 y7)) ?_
      rintro _ s8 ⟨σ8, G8, I8, hw8, q8⟩
      refine thnF (pt.run _ s8 σ8 G8 _ I8 q8) ?_
      rintro b s9 ⟨G9, I9, q9⟩
      have again : ∀ {s' : Shared} {G : Hp}, Inv (X.blk s3 H3 scope ce fp) ([] ++ pinsAt fp s7.heap) σ8 G s' → Nx G →
          ∃ m, m < n ∧ ∃ i G, Inv (X.blk s3 H3 scope ce fp) [] (wipe σ (own.map (·.2))) G s' ∧ tn i s'.heap ∧ (∀ b ∈ fp, G b = none) ∧ W i m G := by
        intro s' G I' nx
        obtain ⟨m', lt, w'⟩ := hNx G nx
        have pinned : ∀ b ∈ fp, ∀ o, s7.heap.get? b = some o → s'.heap.get? b = some o ∧ G b = none := fun b hb o e =>
          have z := I'.pin (b, o) (List.mem_append_right _ (List.mem_append_right _ (mem_pinsAt hb e)))
          ⟨z.1, z.2.1⟩
        have hl : (wipe σ (own.map (·.2))).length = σ8.length := by rw [← hw8, wipe_length]
        refine ⟨m', lt, i + 1, G, (I'.unpinned (pins := [])).weak hl ?_, T.keep _ _ _ st7 fun b hb o e => (pinned b hb o e).1, ?_, w'⟩
        · intro j v e
          rw [← hw8] at e
          exact (wipe_some e).1
        · intro b hb
          obtain ⟨o, e, -⟩ := T.obj _ _ st7 b hb
          exact (pinned b hb o e).2
      cases b with
      | false =>
        rw [if_neg (by decide)] at q9 ⊢
        exact again I9 q9
      | true =>
        rw [if_pos rfl] at q9 ⊢
        refine thnF (pe.run _ s9 σ8 G9 _ I9 q9) ?_
        rintro z s10 ⟨yv, G10, I10, r10, jn⟩
        exact thnF (join_add (X := X.blk s3 H3 scope ce fp) (Q := fun _ s' => ∃ G', Inv (X.blk s3 H3 scope ce fp) ([] ++ pinsAt fp s7.heap) σ8 G' s' ∧ Nx G') I10 r10 jn fun s' G' I' nx _ => ⟨G', I', nx⟩)
          fun _ s' ⟨G', I', nx⟩ => again I' nx
  exact codeAny_compStart_set loop (T.self X.A 0 _ _ _ st4 loop)
theorem pe_scI (hc : X.calm = true) (hN : X.N.Nodup) (hi : PI X tg iter wi) (ok : BlkOk X.N X.env.scope scope own)
    (hg : ∀ (s : Shared) (H : Hp) (C : Addr) (cl : List (PySem.Str × Addr)) (fp : List Addr),
      PG (X.blk s H scope (compEnvC scope cl C X.env) fp) tg g)
    (ht : ∀ (s : Shared) (H : Hp) (C : Addr) (cl : List (PySem.Str × Addr)) (fp : List Addr),
      PTs (X.blk s H scope (compEnvC scope cl C X.env) fp) ifs tt)
    (he : ∀ (s : Shared) (H : Hp) (C : Addr) (cl : List (PySem.Str × Addr)) (fp : List Addr),
      PE (X.blk s H scope (compEnvC scope cl C X.env) fp) elt te)
    (hs : ∀ x, foldedSetIterable iter X.env x = pure x := by intro _; rfl) :
    PE X (.SetComp elt [⟨tg, iter, ifs, 0⟩] scope pos) (tScI X.w wi g tt te (own.map (·.2))) := by
  refine ⟨fun pins s σ H Q I h => ?_⟩
  rw [eval_SetComp]
  refine scI_core hc hN I hi ok hg ht he hs h ?_
  intro D C s' m G I' q hn f
  refine ⟨m, hn, fun h'' sb => ?_⟩
  obtain ⟨f0, f1, f2, f3, f4, f5⟩ := f
  exact ⟨.ref D, G, I'.turned (t' := s'.toks) (fun b o hb e => (sb.2 b hb).trans e) f0 f1 f3 f4 f5, rfl, q⟩
end
abbrev Ex := Evl.Ex
abbrev St := L2.St
/-! ### a def of the text: where it stands -/
structure FA (K : PySem.W.Frag) (mg : Str → Option Value) (x : Str) (st : Stmt) (ps : List Str) where
  f : Addr
  fd : FuncData
  F : FunD K x x (defArgs st) (defBody st) (defScope st) [] [] f fd
  b : Binds K fd ps []
  g : mg x = some (.ref f)
theorem pd_get {α β : Type} {F : α → β → Prop} : ∀ {xs : List α} {ys : List β} {i : Nat} {x : α}, Paired F xs ys → xs[i]? = some x → ∃ y, ys[i]? = some y ∧ F x y
  | _, _, _, _, .nil, e => by simp at e
  | _, _, 0, x, .cons (b := b) r _, e => by
    have e2 : _ = x := Option.some.inj e
    subst e2
    exact ⟨b, rfl, r⟩
  | _, _, i + 1, x, .cons _ t, e => pd_get (i := i) t e
theorem pd_app {α β : Type} {F : α → β → Prop} : ∀ {xs xs' : List α} {ys ys' : List β}, Paired F xs ys → Paired F xs' ys' → Paired F (xs ++ xs') (ys ++ ys')
  | _, _, _, _, .nil, h => h
  | _, _, _, _, .cons r t, h => .cons r (pd_app t h)
/-! ### what is kept -/
/-- tuples stand as they stood -/
def TrT (K : PySem.W.Frag) (H H' : Hp) : Prop := ∀ a xs, SqT K H a xs → SqT K H' a xs
def TrL (K : PySem.W.Frag) (H H' : Hp) : Prop := ∀ a xs, SqL K H a xs → SqL K H' a xs
/-- all but the object at r -/
def Fr (r : Addr) (H H' : Hp) : Prop := ∀ a o, a ≠ r → H a = some o → H' a = some o
section
variable {K : PySem.W.Frag} {H H' H1 H2 : Hp} {r : Addr}
theorem Fr.refl : Fr r H H := fun _ _ _ h => h
theorem Fr.trans (a : Fr r H H1) (b : Fr r H1 H2) : Fr r H H2 := fun x o n h => b x o n (a x o n h)
theorem Fr.of (e : Ex H H') : Fr r H H' := fun a o _ h => e a o h
theorem TrT.of (e : Ex H H') : TrT K H H' := fun _ _ h => Evl.ex_t e h
theorem TrL.of (e : Ex H H') : TrL K H H' := fun _ _ h => Evl.ex_l e h
theorem TrT.refl : TrT K H H := fun _ _ h => h
theorem TrT.trans (a : TrT K H H1) (b : TrT K H1 H2) : TrT K H H2 := fun x xs h => b x xs (a x xs h)
theorem TrT.fr {xs : List V} (hr : H r = some (.lst xs)) (e : Fr r H H') : TrT K H H' := by
  intro a ys h
  have ne : ∀ o, H a = some o → (∀ zs, o ≠ .lst zs) → a ≠ r := fun o q n z => by
    subst z
    rw [hr] at q
    exact n xs (Option.some.inj q).symm
  rcases h with (h | ⟨o, h⟩) | h
  · exact .inl (.inl (e a _ (ne _ h fun _ z => nomatch z) h))
  · exact .inl (.inr ⟨o, e a _ (ne _ h fun _ z => nomatch z) h⟩)
  · exact .inr h
theorem TrT.upd {xs ys : List V} (hr : H r = some (.lst xs)) : TrT K H (upd H r (.lst ys)) :=
  TrT.fr hr fun a o n h => by rw [upd_ne n]; exact h
theorem TrT.newl {o : HO} (hr : H r = none) : TrT K H (L2.upd H r o) := TrT.of (Evl.Ex.new hr)
theorem Fr.upd {o : HO} : Fr r H (L2.upd H r o) := fun a u n h => by rw [upd_ne n]; exact h
/-- an object that the first heap does not have may change -/
theorem Fr.mut {q : Addr} {o : HO} (e : Fr r H H') (h : H q = none) : Fr r H (L2.upd H' q o) := fun a u n ha => by
  rw [upd_ne (ne_of_none ha h)]
  exact e a u n ha
end
/-! ### data: pairs, changes, zones -/
def PV (K : PySem.W.Frag) (H : Hp) (v : V) (p : Int × Int) : Prop := ∃ a, v = .ref a ∧ SqT K H a [.int p.1, .int p.2]
abbrev PVs (K : PySem.W.Frag) (H : Hp) : List V → List (Int × Int) → Prop := Paired (PV K H)
def CsV (K : PySem.W.Frag) (H : Hp) (v : V) (cs : List (Int × Int)) : Prop := ∃ a xs, v = .ref a ∧ SqT K H a xs ∧ PVs K H xs cs
abbrev Zone := Int × List (Int × Int)
def ZV (K : PySem.W.Frag) (H : Hp) (v : V) (z : Zone) : Prop := ∃ a c, v = .ref a ∧ SqT K H a [.int z.1, c] ∧ CsV K H c z.2
section
variable {K : PySem.W.Frag} {H H' : Hp} {v : V}
theorem PV.tr {p : Int × Int} (e : TrT K H H') (h : PV K H v p) : PV K H' v p := by
  obtain ⟨a, q, h⟩ := h
  exact ⟨a, q, e _ _ h⟩
theorem PVs.tr {vs : List V} {ps : List (Int × Int)} (e : TrT K H H') (h : PVs K H vs ps) : PVs K H' vs ps :=
  L2.Paired.mapP h fun _ _ q => q.tr e
theorem CsV.tr {cs : List (Int × Int)} (e : TrT K H H') (h : CsV K H v cs) : CsV K H' v cs := by
  obtain ⟨a, xs, q, h, k⟩ := h
  exact ⟨a, xs, q, e _ _ h, k.tr e⟩
theorem ZV.tr {z : Zone} (e : TrT K H H') (h : ZV K H v z) : ZV K H' v z := by
  obtain ⟨a, c, q, h, k⟩ := h
  exact ⟨a, c, q, e _ _ h, k.tr e⟩
theorem PVs.len {vs : List V} {ps : List (Int × Int)} (h : PVs K H vs ps) : vs.length = ps.length := Paired.length h
end
/-! ### readings, step by step -/
section
variable {σ : L2.St} {H : Hp} {n : St → Hp → Prop} {r : VK} {b c : St → Hp → Prop} {Q : VK}
theorem g_seq {t u : TS} (h : t (Ends.mk (u (Ends.mk n r b c)) r b c) σ H) : tSeq t u (Ends.mk n r b c) σ H := h
theorem g_next (h : n σ H) : tNext (Ends.mk n r b c) σ H := h
theorem g_brk (h : b σ H) : tBreak (Ends.mk n r b c) σ H := h
theorem g_cont (h : c σ H) : tCont (Ends.mk n r b c) σ H := h
theorem g_asg {te : TE} {g : TG} (h : te σ H fun x H1 => g x σ H1 n) : tAsg te g (Ends.mk n r b c) σ H := h
theorem g_ret {te : TE} (h : te σ H r) : tRet te (Ends.mk n r b c) σ H := h
theorem g_retN (h : r .non H) : tRetN (Ends.mk n r b c) σ H := h
theorem g_drop {te : TE} (h : te σ H fun _ H1 => n σ H1) : tDrop te (Ends.mk n r b c) σ H := h
theorem g_ifS {tc : TT} {t u : TS} (h : tc σ H fun k H1 => if k = true then t (Ends.mk n r b c) σ H1 else u (Ends.mk n r b c) σ H1) : tIfS tc t u (Ends.mk n r b c) σ H := h
theorem g_par {i j : Nat} {ta : TA} (h : ta σ H fun vs H1 => ∃ v w, vs = [v, w] ∧ n ((σ.set i (some v)).set j (some w)) H1) : tPar i j ta (Ends.mk n r b c) σ H := h
theorem g_par_ {v w : V} {N : V → V → Prop} (h : N v w) : ∃ v' w', [v, w] = [v', w'] ∧ N v' w' := ⟨v, w, rfl, h⟩
theorem g_var {i : Nat} {v : V} (e : σ[i]? = some (some v)) (h : Q v H) : tVar i σ H Q := ⟨v, e, h⟩
theorem g_c {v : V} (h : Q v H) : tC v σ H Q := h
theorem g_op {rr : R2} {ta tb : TE} (h : ta σ H fun x H1 => tb σ H1 fun y H2 => rr x y H2 Q) : tOp rr ta tb σ H Q := h
theorem g_un {rr : V → Hp → VK → Prop} {ta : TE} (h : ta σ H fun x H1 => rr x H1 Q) : tUn rr ta σ H Q := h
theorem g_I0 {g : Int → Int → V} {i j : Int} (h : Q (g i j) H) : rI0 g (.int i) (.int j) H Q := ⟨i, j, rfl, rfl, h⟩
theorem g_I {C : Int → Int → Prop} {g : Int → Int → V} {i j : Int} (k : C i j) (h : Q (g i j) H) : rI C g (.int i) (.int j) H Q := ⟨i, j, rfl, rfl, k, h⟩
theorem g_U {g : Int → V} {i : Int} (h : Q (g i) H) : rU g (.int i) H Q := ⟨i, rfl, h⟩
theorem dec_int {i j : Int} : decide (V.int i = V.int j) = decide (i = j) := decide_eq_decide.mpr ⟨fun e => V.int.inj e, fun e => by rw [e]⟩
theorem dec_str {i j : Str} : decide (V.str i = V.str j) = decide (i = j) := decide_eq_decide.mpr ⟨fun e => V.str.inj e, fun e => by rw [e]⟩
theorem dec_bl {i j : Bool} : decide (V.bl i = V.bl j) = (i == j) := by cases i <;> cases j <;> rfl
theorem g_eqI {i j : Int} (h : Q (.bl (decide (i = j))) H) : rEq (.int i) (.int j) H Q := ⟨rfl, by rw [dec_int]; exact h⟩
theorem g_neI {i j : Int} (h : Q (.bl (!decide (i = j))) H) : rNe (.int i) (.int j) H Q := ⟨rfl, by rw [dec_int]; exact h⟩
theorem g_eqS {i j : Str} (h : Q (.bl (decide (i = j))) H) : rEq (.str i) (.str j) H Q := ⟨rfl, by rw [dec_str]; exact h⟩
theorem g_neS {i j : Str} (h : Q (.bl (!decide (i = j))) H) : rNe (.str i) (.str j) H Q := ⟨rfl, by rw [dec_str]; exact h⟩
theorem g_eqB {i j : Bool} (h : Q (.bl (i == j)) H) : rEq (.bl i) (.bl j) H Q := ⟨rfl, by rw [dec_bl]; exact h⟩
theorem g_neB {i j : Bool} (h : Q (.bl (!(i == j))) H) : rNe (.bl i) (.bl j) H Q := ⟨rfl, by rw [dec_bl]; exact h⟩
theorem g_test {t : TE} {R : Bool → Hp → Prop} (h : t σ H fun x H' => ∃ k, x = .bl k ∧ R k H') : tTest t σ H R := h
theorem g_B {t : TE} {R : Bool → Hp → Prop} (h : t σ H fun x H' => ∃ k, x = .bl k ∧ R k H') : tB t σ H R := h
theorem g_bl {k : Bool} {R : Bool → Prop} (h : R k) : ∃ k', V.bl k = V.bl k' ∧ R k' := ⟨k, rfl, h⟩
theorem g_not {t : TT} {R : Bool → Hp → Prop} (h : t σ H fun k H1 => R (!k) H1) : tNot t σ H R := h
theorem g_and {t u : TT} {R : Bool → Hp → Prop} (h : t σ H fun k H1 => if k = true then u σ H1 R else R false H1) : tAnd t u σ H R := h
theorem g_or {t u : TT} {R : Bool → Hp → Prop} (h : t σ H fun k H1 => if k = true then R true H1 else u σ H1 R) : tOr t u σ H R := h
theorem g_andV {ta tb : TE} (h : ta σ H fun x H1 => ∃ k, x = .bl k ∧ if k = true then tb σ H1 Q else Q (.bl false) H1) : tAndV ta tb σ H Q := h
theorem g_orV {ta tb : TE} (h : ta σ H fun x H1 => ∃ k, x = .bl k ∧ if k = true then Q (.bl true) H1 else tb σ H1 Q) : tOrV ta tb σ H Q := h
theorem g_notV {ta : TE} (h : ta σ H fun x H1 => ∃ k, x = .bl k ∧ Q (.bl (!k)) H1) : tNotV ta σ H Q := h
theorem g_yes {R : Bool → Hp → Prop} (h : R true H) : tYes σ H R := h
theorem if_tt {A B : Prop} (h : A) : if true = true then A else B := h
theorem if_ff {A B : Prop} (h : B) : if false = true then A else B := h
theorem if_nt {A B : Prop} (h : B) : if (!true) = true then A else B := h
theorem if_nf {A B : Prop} (h : A) : if (!false) = true then A else B := h
theorem g_asg2 {te : TE} {g1 g2 : TG} (h : te σ H fun x H1 => g1 x σ H1 fun σ1 H2 => g2 x σ1 H2 n) : tAsg2 te g1 g2 (Ends.mk n r b c) σ H := h
theorem g_par3 {i j l : Nat} {ta : TA} (h : ta σ H fun vs H1 => ∃ u v w, vs = [u, v, w] ∧ n (((σ.set i (some u)).set j (some v)).set l (some w)) H1) : tPar3 i j l ta (Ends.mk n r b c) σ H := h
theorem g_par3_ {u v w : V} {N : V → V → V → Prop} (h : N u v w) : ∃ u' v' w', [u, v, w] = [u', v', w'] ∧ N u' v' w' := ⟨u, v, w, rfl, h⟩
theorem g_chain {rr rr' : R2} {ta tb tc : TE} (h : ta σ H fun x H1 => tb σ H1 fun y H2 => rr x y H2 fun z H3 => ∃ k, z = .bl k ∧ (if k = true then tc σ H3 fun v H4 => rr' y v H4 Q else Q (.bl false) H3)) : tChain rr rr' ta tb tc σ H Q := h
theorem g_if {t : TT} {ta tb : TE} (h : t σ H fun k H1 => if k = true then ta σ H1 Q else tb σ H1 Q) : tIf t ta tb σ H Q := h
theorem g_nil {R : List V → Hp → Prop} (h : R [] H) : tNil σ H R := h
theorem g_cons {ta : TE} {tr : TA} {R : List V → Hp → Prop} (h : ta σ H fun x H1 => tr σ H1 fun xs H2 => R (x :: xs) H2) : tCons ta tr σ H R := h
def NewT (xs : List V) (H : Hp) (Q : VK) : Prop := xs.length ≤ sizeLine ∧ ∀ p, H p = none → Q (.ref p) (upd H p (.tup xs))
def NewL (xs : List V) (H : Hp) (Q : VK) : Prop := xs.length ≤ sizeLine ∧ ∀ p, H p = none → Q (.ref p) (upd H p (.lst xs))
theorem g_tup {ta : TA} (h : ta σ H fun xs H1 => NewT xs H1 Q) : tTup ta σ H Q := h
theorem g_lst {ta : TA} (h : ta σ H fun xs H1 => NewL xs H1 Q) : tLst ta σ H Q := h
theorem g_newT {xs : List V} (l : xs.length ≤ 100000) (h : ∀ p H', H p = none → Ex H H' → H' p = some (.tup xs) → Q (.ref p) H') :
    NewT xs H Q := ⟨Nat.le_trans l (by decide), fun p hp => h p _ hp (Evl.Ex.new hp) upd_same⟩
theorem g_newL {xs : List V} (l : xs.length ≤ 100000) (h : ∀ p H', H p = none → Ex H H' → H' p = some (.lst xs) → Q (.ref p) H') :
    NewL xs H Q := ⟨Nat.le_trans l (by decide), fun p hp => h p _ hp (Evl.Ex.new hp) upd_same⟩
theorem g_CB {rr : List V → Hp → VK → Prop} {t : TA} (h : t σ H fun vs H1 => rr vs H1 Q) : tCB rr t σ H Q := h
theorem g_call {sp : Sp} {E : XK} {t : TA} (h : t σ H fun vs H1 => sp vs H1 Q E) : tCall sp [] E t σ H Q := by
  show t σ H fun vs H1 => sp (vs ++ []) H1 Q E
  have e : (fun vs H1 => sp (vs ++ []) H1 Q E) = fun vs H1 => sp vs H1 Q E := by
    funext vs H1
    rw [List.append_nil]
  rw [e]
  exact h
theorem g_name {i : Nat} {v : V} (h : n (σ.set i (some v)) H) : gName i v σ H n := h
theorem g_gtup {K : PySem.W.Frag} {a : Addr} {xs : List V} {k : Nat} {t : TGs} (q : SqT K H a xs) (l : xs.length = k) (h : t xs σ H n) : gTup K k t (.ref a) σ H n := ⟨a, xs, rfl, q, l, h⟩
theorem g_gnil (h : n σ H) : gNil [] σ H n := ⟨rfl, h⟩
theorem g_gcons {t : TG} {u : TGs} {v : V} {rest : List V} (h : t v σ H fun σ' H' => u rest σ' H' n) : gCons t u (v :: rest) σ H n := ⟨v, rest, rfl, h⟩
theorem g_for {wi : TI} {g : TG} {tb : TS} (h : wi σ H fun J H1 => ∃ W : Nat → Nat → St → Hp → Prop, (∃ m, W 0 m σ H1) ∧ ∀ i m σ H, W i m σ H →
    (J.stop i H ∧ n σ H) ∨ (J.go i H ∧ ∃ N : St → Hp → Prop, (∀ σ' H', N σ' H' → ∃ m', m' < m ∧ W (i + 1) m' σ' H') ∧ ∀ x H', J.yld i H x H' → g x σ H' fun σ2 H2 => tb (Ends.mk N r n N) σ2 H2)) :
    tFor wi g tb (Ends.mk n r b c) σ H := h
theorem g_iTup {K : PySem.W.Frag} {tl : TE} {R : It → Hp → Prop} (h : tl σ H fun x H1 => ∃ a, x = .ref a ∧ (∃ xs, SqT K H1 a xs) ∧ R (Itt K a) H1) : iTup K tl σ H R := h
theorem g_iList {K : PySem.W.Frag} {tl : TE} {R : It → Hp → Prop} (h : tl σ H fun x H1 => ∃ a, x = .ref a ∧ (∃ xs, SqL K H1 a xs) ∧ R (Itl K a) H1) : iList K tl σ H R := h
theorem g_rng1 {ta : TA} {R : It → Hp → Prop} (h : ta σ H fun vs H1 => ∃ j : Int, vs = [.int j] ∧ -(2 ^ 62) ≤ j ∧ j < 2 ^ 62 ∧ R (Itr 0 j.toNat) H1) : iRng1 ta σ H R := h
theorem g_rng2 {ta : TA} {R : It → Hp → Prop} (h : ta σ H fun vs H1 => ∃ i j : Int, vs = [.int i, .int j] ∧ (-(2 ^ 62) ≤ i ∧ i < 2 ^ 62 ∧ -(2 ^ 62) ≤ j ∧ j < 2 ^ 62) ∧ R (Itr i (j - i).toNat) H1) : iRng2 ta σ H R := h
theorem g_ixT {K : PySem.W.Frag} {p : Addr} {xs : List V} {i : Int} {v : V} (q : SqT K H p xs) (e : atI xs i = some v) (h : Q v H) : rIxT K (.ref p) (.int i) H Q := ⟨p, xs, i, v, rfl, rfl, q, e, h⟩
theorem g_ixL {K : PySem.W.Frag} {p : Addr} {xs : List V} {i : Int} {v : V} (q : SqL K H p xs) (e : atI xs i = some v) (h : Q v H) : rIxL K (.ref p) (.int i) H Q := ⟨p, xs, i, v, rfl, rfl, q, e, h⟩
theorem if_t {A B : Prop} {k : Bool} (e : k = true) (h : A) : if k = true then A else B := by rw [if_pos e]; exact h
theorem if_f {A B : Prop} {k : Bool} (e : k = false) (h : B) : if k = true then A else B := by rw [if_neg (by rw [e]; decide)]; exact h
theorem if_b {A B : Prop} {k : Bool} (h1 : k = true → A) (h2 : k = false → B) : if k = true then A else B := by
  cases k with
  | true => exact if_t rfl (h1 rfl)
  | false => exact if_f rfl (h2 rfl)
end
/-! ### calls of built-ins, named -/
def r_int : List V → Hp → VK → Prop := fun xs H Q => (∃ i, xs = [.int i] ∧ Q (.int i) H) ∨ ∃ k, xs = [.bl k] ∧ Q (.int (if k then 1 else 0)) H
def r_abs : List V → Hp → VK → Prop := fun xs H Q => ∃ i, xs = [.int i] ∧ Q (.int (if i < 0 then -i else i)) H
def r_tupleOf (K : PySem.W.Frag) : List V → Hp → VK → Prop := fun xs H Q => ∃ p ys, xs = [.ref p] ∧
  ((SqL K H p ys ∧ ∀ l, H l = none → Q (.ref l) (upd H l (.tup ys))) ∨ (SqT K H p ys ∧ Q (.ref p) H))
def r_isN : R2 := fun x y H Q => y = .non ∧ Q (.bl (decide (x = .non))) H
def r_notN : R2 := fun x y H Q => y = .non ∧ Q (.bl (!decide (x = .non))) H
section
variable {K : PySem.W.Frag} {w : World} {H : Hp} {Q : VK} {a : Addr} {xs ys : List V}
theorem g_tupleOfL (q : SqL K H a xs) (h : ∀ p H', H p = none → Ex H H' → H' p = some (.tup xs) → Q (.ref p) H') : r_tupleOf K [.ref a] H Q :=
  ⟨a, xs, rfl, .inl ⟨q, fun p hp => h p _ hp (Evl.Ex.new hp) upd_same⟩⟩
theorem g_listOfT (q : SqT K H a xs) (h : ∀ p H', H p = none → Ex H H' → H' p = some (.lst xs) → Q (.ref p) H') : Evl.rListS K [.ref a] H Q :=
  ⟨a, xs, rfl, .inr q, fun p hp => h p _ hp (Evl.Ex.new hp) upd_same⟩
theorem g_lenL (q : SqL K H a xs) (h : Q (.int (xs.length : Int)) H) : Evl.rLenS K [.ref a] H Q := ⟨a, xs, rfl, .inl q, h⟩
theorem g_lenT (q : SqT K H a xs) (h : Q (.int (xs.length : Int)) H) : Evl.rLenS K [.ref a] H Q := ⟨a, xs, rfl, .inr q, h⟩
theorem g_cat {b : Addr} (q : H a = some (.lst xs)) (q' : H b = some (.lst ys)) (l : xs.length + ys.length ≤ 100000) (h : ∀ p H', H p = none → Ex H H' → H' p = some (.lst (xs ++ ys)) → Q (.ref p) H') : rCat (.ref a) (.ref b) H Q :=
  ⟨a, b, xs, ys, rfl, rfl, q, q', Nat.le_trans l (by decide), fun p hp => h p _ hp (Evl.Ex.new hp) upd_same⟩
theorem g_sortedSet {S : Int → Bool} {n : Nat} (q : H a = some (SetO w a S n)) (l : n < 64)
    (h : ∀ (ns : List Int) p H', H p = none → Ex H H' → H' p = some (.lst (ns.map V.int)) → ns.Pairwise (· < ·) → (∀ k : Int, k ∈ ns ↔ S k = true) → Q (.ref p) H') : rSortedSet w [.ref a] H Q :=
  ⟨a, S, n, rfl, q, l, fun ns p h1 h2 _ hp => h ns p _ hp (Evl.Ex.new hp) upd_same h1 h2⟩
theorem g_int {i : Int} (h : Q (.int i) H) : r_int [.int i] H Q := .inl ⟨i, rfl, h⟩
theorem g_abs {i : Int} (h : Q (.int (if i < 0 then -i else i)) H) : r_abs [.int i] H Q := ⟨i, rfl, h⟩
/-- isinstance(x, T), by the types' names -/
theorem g_isi {x : V} {T U : String} {b : Bool} (t : TyX K H x (.type T)) (k : kitB T U = some b) (h : Q (.bl b) H) : rIsi K [x, .ty U] H Q :=
  ⟨x, .ty U, _, _, b, rfl, .ty U, t, kit_ty k, h⟩
theorem g_isiT {x : V} {T U U' : String} {b b' : Bool} {tp : Addr} (h0 : H tp = some (.tup [.ty U, .ty U'])) (t : TyX K H x (.type T)) (k : kitB T U = some b) (k' : kitB T U' = some b') (h : Q (.bl (b || b')) H) : rIsiT K [x, .ref tp] H Q := by
  refine ⟨x, tp, _, _, _, b || b', rfl, h0, .cons (.ty U) (.cons (.ty U') .nil), t, ?_, h⟩
  refine kitAny_cons (kit_ty k) (fun e => ?_) (fun e => by rw [e] <;> rfl)
  refine kitAny_cons (kit_ty k') (fun e' => by rw [e, e']; exact kitAny_nil) (fun e' => by rw [e, e'] <;> rfl)
theorem g_same {x : V} (e : scal x x = true) (h : Q (.bl true) H) : rEq x x H Q := ⟨e, by rw [decide_eq_true (rfl : x = x)]; exact h⟩
theorem g_isB {i j : Bool} (h : Q (.bl (decide (i = j))) H) : rIsB (.bl i) (.bl j) H Q := ⟨i, j, rfl, rfl, h⟩
theorem g_notB {i j : Bool} (h : Q (.bl (!decide (i = j))) H) : rNotB (.bl i) (.bl j) H Q := ⟨i, j, rfl, rfl, h⟩
theorem g_isN {x : V} (h : Q (.bl (decide (x = .non))) H) : r_isN x .non H Q := ⟨rfl, h⟩
theorem g_notN {x : V} (h : Q (.bl (!decide (x = .non))) H) : r_notN x .non H Q := ⟨rfl, h⟩
theorem g_app {l : Addr} {y : V} (q : H l = some (.lst xs)) (h5 : xs.length < 100000) (h : ∀ H', H' = upd H l (.lst (xs ++ [y])) → Q .non H') : rAppend (.ref l) [y] H Q :=
  ⟨l, xs, y, rfl, rfl, q, Nat.lt_of_lt_of_le h5 (by decide), h _ rfl⟩
theorem g_tbm {σ : St} {to : TE} {t : TA} {rr : V → List V → Hp → VK → Prop} (h : to σ H fun x H1 => (∃ a xs, x = .ref a ∧ SqL K H1 a xs) ∧ t σ H1 fun xs H2 => rr x xs H2 Q) (mono : ∀ R R' : VK, (∀ v H', R v H' → R' v H') → to σ H R → to σ H R') : tBM K "list" rr to t σ H Q := by
  refine mono _ _ ?_ h
  rintro v H' ⟨⟨a, xs, rfl, q⟩, k⟩
  exact ⟨.inl ⟨rfl, xs, q⟩, k⟩
theorem g_tbmV {σ : St} {i : Nat} {t : TA} {rr : V → List V → Hp → VK → Prop} (e : σ[i]? = some (some (.ref a))) (q : SqL K H a xs) (h : t σ H fun ys H2 => rr (.ref a) ys H2 Q) : tBM K "list" rr (tVar i) t σ H Q :=
  ⟨_, e, .inl ⟨rfl, xs, q⟩, h⟩
theorem g_maxL {a : Addr} {ns : List Int} (q : SqL K H a (ns.map V.int)) (l : 0 < ns.length) (h : ∀ m, m ∈ ns → (∀ y, y ∈ ns → y ≤ m) → Q (.int m) H) : rMax K [.ref a] H Q := ⟨a, ns, rfl, q, l, h⟩
theorem g_intB {b : Bool} (h : Q (.int (if b then 1 else 0)) H) : r_int [.bl b] H Q := .inr ⟨b, rfl, h⟩
theorem g_gunl {σ : St} {a : Addr} {xs : List V} {k : Nat} {t : TGs} {n : St → Hp → Prop} (q : SqL K H a xs) (l : xs.length = k) (h : t xs σ H n) : gUnl K k t (.ref a) σ H n := ⟨a, xs, rfl, q, l, h⟩
theorem dp_int {v : V} {i : Int} (h : Dp K H v (.int i)) : v = .int i := by cases h; rfl
theorem cmul_r {i j : Int} (h1 : -(2 ^ 64) < j) (h2 : j < 2 ^ 64) : CMul i j := .inr ⟨h1, h2⟩
theorem cmul_l {i j : Int} (h1 : -(2 ^ 64) < i) (h2 : i < 2 ^ 64) : CMul i j := .inl ⟨h1, h2⟩
theorem cdiv_of {i j : Int} (h1 : 0 < j) (h2 : j < 2 ^ 64) : CDivW i j := wide_div (b := 64) h1 (by omega) (by decide) (by decide)
theorem cpow_of {i j : Int} (h1 : 0 ≤ j) (h2 : j ≤ 1000000) (h3 : i.natAbs < 2 ^ 64) : CPow i j := ⟨h1, h2, h3⟩
theorem g_sub {σ : St} {H : Hp} {to ti : TE} {t : TSet} {v : V} {n : St → Hp → Prop} (h : to σ H fun o H1 => ti σ H1 fun i H2 => t o i v H2 fun H3 => n σ H3) : gSub to ti t v σ H n := h
theorem g_setL {p : Addr} {xs : List V} {k : Int} {j : Nat} {v : V} {H : Hp} {R : Hp → Prop} (q : H p = some (.lst xs)) (e : ixN xs.length k = some j)
    (h : ∀ H', Fr p H H' → H' p = some (.lst (xs.set j v)) → R H') : rSetL (.ref p) (.int k) v H R := ⟨p, xs, k, j, rfl, rfl, q, e, h _ Fr.upd upd_same⟩
theorem room65 {k : Nat} {A : Around} (r : Room k A) : A.units + 65 < cLine := by
  have := r.un
  omega
theorem atI_of {α : Type} {xs : List α} {i : Int} {v : α} (h : 0 ≤ i) (e : xs[i.toNat]? = some v) : atI xs i = some v := by
  have q := atI_nat e
  rw [Int.toNat_of_nonneg h] at q
  exact q
theorem atI_end {α : Type} {xs : List α} {v : α} (e : xs.getLast? = some v) : atI xs (-1) = some v := by
  obtain ⟨ys, rfl⟩ := List.getLast?_eq_some_iff.mp e
  exact atI_last ys v
/-! ### the row of draws -/
/-- a row: its address, its script's, the script's ints -/
abbrev Rw := Addr × Addr × List Int
/-- the script: read, whatever the row is -/
def Scr (K : PySem.W.Frag) (H : Hp) (ρ : Rw) : Prop := ∀ H', Fr ρ.1 H H' → SqL K H' ρ.2.1 (ρ.2.2.map V.int)
def Row (K : PySem.W.Frag) (H : Hp) (ρ : Rw) : Prop := ∃ i s t : Int, H ρ.1 = some (.lst [.ref ρ.2.1, .int i, .int s, .int t]) ∧ Scr K H ρ ∧ 0 ≤ i ∧ 0 ≤ s ∧ s < 2 ^ 40
section
variable {K : PySem.W.Frag} {H H' H0 : Hp} {ρ : Rw}
theorem Scr.fr (h : Scr K H ρ) (e : Fr ρ.1 H H') : Scr K H' ρ := fun G f => h G (e.trans f)
theorem Row.lst (h : Row K H ρ) : ∃ xs, H ρ.1 = some (.lst xs) := by
  obtain ⟨i, s, t, h, _⟩ := h
  exact ⟨_, h⟩
theorem Row.tr (h : Row K H ρ) (e : Fr ρ.1 H H') : TrT K H H' := by
  obtain ⟨xs, h⟩ := h.lst
  exact TrT.fr h e
theorem Row.ex (h : Row K H ρ) (e : Ex H H') : Row K H' ρ := by
  obtain ⟨i, s, t, h, k, b⟩ := h
  exact ⟨i, s, t, e _ _ h, k.fr (Fr.of e), b⟩
/-- an object that the first heap does not have changes -/
theorem Row.mut {l : Addr} {o : HO} (h0 : Row K H0 ρ) (h : Row K H ρ) (e : Fr ρ.1 H0 H) (n : H0 l = none) : Row K (L2.upd H l o) ρ := by
  obtain ⟨i, s, t, h, k, b⟩ := h
  obtain ⟨xs, q⟩ := h0.lst
  obtain ⟨_, _, _, _, k0, _⟩ := h0
  have ne : ρ.1 ≠ l := ne_of_none q n
  exact ⟨i, s, t, by rw [upd_ne ne]; exact h, k0.fr (Fr.mut e n), b⟩
end
theorem ty_int {i : Int} : TyX K H (.int i) (.type "int") := .base (.int i)
theorem ty_str {i : Str} : TyX K H (.str i) (.type "str") := .base (.str i)
theorem ty_bl {i : Bool} : TyX K H (.bl i) (.type "bool") := .base (.bl i)
theorem ty_non : TyX K H .non (.type "NoneType") := .base .non
theorem ty_tup (q : SqT K H a xs) : TyX K H (.ref a) (.type "tuple") := by
  rcases q with (q | ⟨o, q⟩) | q
  · exact .base (.tup q)
  · exact .fTuple q
  · obtain ⟨o, its, n, e, c, _⟩ := q
    exact .kTuple e c
theorem ty_lst (q : H a = some (.lst xs)) : TyX K H (.ref a) (.type "list") := .base (.lst q)
end
theorem if_d {A B : Prop} {p : Prop} [Decidable p] (h1 : p → A) (h2 : ¬ p → B) : if decide p = true then A else B :=
  if_b (fun h => h1 (of_decide_eq_true h)) (fun h => h2 (of_decide_eq_false h))
theorem if_nd {A B : Prop} {p : Prop} [Decidable p] (h1 : ¬ p → A) (h2 : p → B) : if (!decide p) = true then A else B :=
  if_b (fun h => h1 fun q => by rw [decide_eq_true q] at h; cases h) (fun h => h2 (by
    cases e : decide p with
    | true => exact of_decide_eq_true e
    | false => rw [e] at h; cases h))
/-! ### a cut: what follows is shown once -/
section
variable {σ : St} {H : Hp} {n : St → Hp → Prop} {r : VK} {b c : St → Hp → Prop} {Q : VK}
theorem cutE {te : TE} (Post : VK) (ev : ∀ Q' : VK, (∀ v H', Post v H' → Q' v H') → te σ H Q') (k : ∀ v H', Post v H' → Q v H') : te σ H Q := ev Q k
theorem cutS {ts : TS} (Mid : St → Hp → Prop) (ev : ∀ n' : St → Hp → Prop, (∀ σ' H', Mid σ' H' → n' σ' H') → ts (Ends.mk n' r b c) σ H) (k : ∀ σ' H', Mid σ' H' → n σ' H') : ts (Ends.mk n r b c) σ H := ev n k
end
/-! ### dicts with written text keys -/
section
variable {σ : St} {H H0 : Hp} {Q : VK}
def DispEnd (p : Addr) (ps : List (V × V)) (H : Hp) (Q : VK) : Prop := H p = some (.dK []) ∧ ∃ kvs : List (Key × V), ps = kvs.map (fun kv => (kV kv.1, kv.2)) ∧ kvs.length ≤ 15 ∧ Q (.ref p) (upd H p (.dK (mergeK [] kvs)))
theorem g_disp {trs : List (TE × TE)} (h : ∀ p H', H p = none → Ex H H' → H' p = some (.dK []) → tPairs trs σ H' fun ps H2 => DispEnd p ps H2 Q) : tDisp trs σ H Q :=
  fun p hp => h p _ hp (Evl.Ex.new hp) upd_same
theorem g_pcons {tk tv : TE} {r : List (TE × TE)} {R : List (V × V) → Hp → Prop} (h : tk σ H fun x H1 => tv σ H1 fun y H2 => tPairs r σ H2 fun ps H3 => R ((x, y) :: ps) H3) : tPairs ((tk, tv) :: r) σ H R := h
theorem g_pnil {R : List (V × V) → Hp → Prop} (h : R [] H) : tPairs [] σ H R := h
theorem g_dispEnd {p : Addr} {ps : List (V × V)} (kvs : List (Key × V)) (n : H0 p = none) (e : Ex H0 H) (q : H p = some (.dK [])) (eq : ps = kvs.map (fun kv => (kV kv.1, kv.2))) (l : kvs.length ≤ 15)
    (h : ∀ H3, Ex H0 H3 → Fr p H H3 → H3 p = some (.dK (mergeK [] kvs)) → Q (.ref p) H3) : DispEnd p ps H Q := ⟨q, kvs, eq, l, h _ (Evl.Ex.mut e n) Fr.upd upd_same⟩
def DGetR (a : Addr) (z : V) (y : V) (H : Hp) (Q : VK) : Prop := ∃ o, DGet H a y o ∧ Q (o.getD z) H
theorem g_dget2 {td ty tx : TE} (h : td σ H fun x H1 => ∃ a, x = .ref a ∧ IsD H1 a ∧ ty σ H1 fun y H2 => tx σ H2 fun z H3 => DGetR a z y H3 Q) : tDGet2 td ty tx σ H Q := h
theorem g_isD {a : Addr} {kvs : List (Key × V)} {R : Addr → Prop} (q : H a = some (.dK kvs)) (h : R a) : ∃ a', V.ref a = V.ref a' ∧ IsD H a' ∧ R a' := ⟨a, rfl, .inl ⟨kvs, .inl q⟩, h⟩
theorem g_dgetR {a : Addr} {z : V} {x : Str} {kvs : List (Key × V)} (q : H a = some (.dK kvs)) (h : Q ((valV kvs (Sum.inr x : Key)).getD z) H) : DGetR a z (.str x) H Q := ⟨_, DGet.k (k := Sum.inr x) q, h⟩
end
/-! ### loops over data -/
section
variable {α : Type} {K : PySem.W.Frag} {a : Addr} {xs : List V} {g : TG} {tb : TS} {n : St → Hp → Prop} {r : VK} {σ : St} {H : Hp} {ds : List α} {F : Hp → V → α → Prop}
theorem at_drop {i : Nat} {x : V} (hp : Paired (F H) xs ds) (hi : xs[i]? = some x) : ∃ d, F H x d ∧ ds.drop i = d :: ds.drop (i + 1) := by
  have L := Paired.length hp
  have lt : i < ds.length := by rw [← L]; exact (List.getElem?_eq_some_iff.mp hi).1
  obtain ⟨y, hy, hv⟩ := pd_get hp hi
  have ey : y = ds[i] := by
    rw [List.getElem?_eq_getElem lt] at hy
    exact (Option.some.inj hy).symm
  exact ⟨y, hv, by rw [ey]; exact List.drop_eq_getElem_cons lt⟩
theorem at_end (hp : Paired (F H) xs ds) : ds.drop xs.length = [] := by rw [Paired.length hp, List.drop_length]
/-- for x in a tuple -/
theorem g_forT (hx : SqT K H a xs) (hp : Paired (F H) xs ds) (Iv : List α → St → Hp → Prop) (h0 : Iv ds σ H)
    (keep : ∀ l σ' H', Iv l σ' H' → SqT K H' a xs ∧ ∀ x d, F H x d → F H' x d)
    (step : ∀ d l x σ' H', Iv (d :: l) σ' H' → F H' x d → g x σ' H' fun σ2 H2 => tb (Ends.mk (Iv l) r n (Iv l)) σ2 H2)
    (last : ∀ σ' H', Iv [] σ' H' → n σ' H') :
    ∃ a', V.ref a = V.ref a' ∧ (∃ xs, SqT K H a' xs) ∧ ∃ W : Nat → Nat → St → Hp → Prop, (∃ m, W 0 m σ H) ∧ ∀ i m σ H, W i m σ H →
      ((Itt K a').stop i H ∧ n σ H) ∨ ((Itt K a').go i H ∧ ∃ N : St → Hp → Prop, (∀ σ' H', N σ' H' → ∃ m', m' < m ∧ W (i + 1) m' σ' H') ∧ ∀ x H', (Itt K a').yld i H x H' → g x σ H' fun σ2 H2 => tb (Ends.mk N r n N) σ2 H2) := by
  refine ⟨a, rfl, ⟨xs, hx⟩, for_tup (K := K) (xs := xs) (D := Ends.mk n r n n) (fun i σ' H' => Iv (ds.drop i) σ' H') h0 (fun i σ' H' _ q => (keep _ _ _ q).1) ?_ ?_⟩
  · intro i x σ' H' hi q
    obtain ⟨d, hd, e⟩ := at_drop hp hi
    rw [e] at q
    exact step d _ x σ' H' q ((keep _ _ _ q).2 x d hd)
  · intro σ' H' q
    rw [at_end hp] at q
    exact last _ _ q
/-- for x in a list -/
theorem g_forL (hx : SqL K H a xs) (hp : Paired (F H) xs ds) (Iv : List α → St → Hp → Prop) (h0 : Iv ds σ H)
    (keep : ∀ l σ' H', Iv l σ' H' → SqL K H' a xs ∧ ∀ x d, F H x d → F H' x d)
    (step : ∀ d l x σ' H', Iv (d :: l) σ' H' → F H' x d → g x σ' H' fun σ2 H2 => tb (Ends.mk (Iv l) r n (Iv l)) σ2 H2)
    (last : ∀ σ' H', Iv [] σ' H' → n σ' H') :
    ∃ a', V.ref a = V.ref a' ∧ (∃ xs, SqL K H a' xs) ∧ ∃ W : Nat → Nat → St → Hp → Prop, (∃ m, W 0 m σ H) ∧ ∀ i m σ H, W i m σ H →
      ((Itl K a').stop i H ∧ n σ H) ∨ ((Itl K a').go i H ∧ ∃ N : St → Hp → Prop, (∀ σ' H', N σ' H' → ∃ m', m' < m ∧ W (i + 1) m' σ' H') ∧ ∀ x H', (Itl K a').yld i H x H' → g x σ H' fun σ2 H2 => tb (Ends.mk N r n N) σ2 H2) := by
  refine ⟨a, rfl, ⟨xs, hx⟩, for_list (K := K) (xs := xs) (D := Ends.mk n r n n) (fun i σ' H' => Iv (ds.drop i) σ' H') h0 (fun i σ' H' _ q => (keep _ _ _ q).1) ?_ ?_⟩
  · intro i x σ' H' hi q
    obtain ⟨d, hd, e⟩ := at_drop hp hi
    rw [e] at q
    exact step d _ x σ' H' q ((keep _ _ _ q).2 x d hd)
  · intro σ' H' q
    rw [at_end hp] at q
    exact last _ _ q
/-- for k in range(j) -/
theorem g_forR {j : Int} (h1 : j < 2 ^ 62) (h2 : -(2 ^ 62) ≤ j) (Iv : Nat → St → Hp → Prop) (h0 : Iv 0 σ H)
    (step : ∀ i σ' H', i < j.toNat → Iv i σ' H' → g (.int (i : Int)) σ' H' fun σ2 H2 => tb (Ends.mk (Iv (i + 1)) r n (Iv (i + 1))) σ2 H2)
    (last : ∀ σ' H', Iv j.toNat σ' H' → n σ' H') :
    ∃ j' : Int, [V.int j] = [V.int j'] ∧ -(2 ^ 62) ≤ j' ∧ j' < 2 ^ 62 ∧ ∃ W : Nat → Nat → St → Hp → Prop, (∃ m, W 0 m σ H) ∧ ∀ i m σ H, W i m σ H →
      ((Itr 0 j'.toNat).stop i H ∧ n σ H) ∨ ((Itr 0 j'.toNat).go i H ∧ ∃ N : St → Hp → Prop, (∀ σ' H', N σ' H' → ∃ m', m' < m ∧ W (i + 1) m' σ' H') ∧ ∀ x H', (Itr 0 j'.toNat).yld i H x H' → g x σ H' fun σ2 H2 => tb (Ends.mk N r n N) σ2 H2) := by
  refine ⟨j, rfl, h2, h1, for_range (lo := 0) (n := j.toNat) (D := Ends.mk n r n n) Iv h0 ?_ last⟩
  intro i σ' H' hi q
  have e : (0 : Int) + (i : Int) = (i : Int) := Int.zero_add _
  rw [e]
  exact step i σ' H' hi q
end
/-! ### comprehensions over data -/
section
variable {α : Type} {K : PySem.W.Frag} {a : Addr} {xs : List V} {g : TG} {tt : TT} {te : TE} {vs : List Nat} {σ : St} {H : Hp} {ds : List α} {F : Hp → V → α → Prop} {Q : VK}
theorem filt_all (ds : List α) : ds.filter (fun _ => true) = ds := List.filter_eq_self.mpr fun _ _ => rfl
/-- what the first turns have given -/
def gave (f : α → Bool) (v : α → V) (ds : List α) (i : Nat) : List V := ((ds.take i).filter f).map v
theorem gave_len (f : α → Bool) (v : α → V) (ds : List α) (i : Nat) : (gave f v ds i).length ≤ ds.length := by
  unfold gave
  rw [List.length_map]
  exact Nat.le_trans (List.length_filter_le _ _) (by rw [List.length_take]; omega)
theorem gave_next {f : α → Bool} {v : α → V} {ds : List α} {i : Nat} {d : α} {r : List α} (e : ds.drop i = d :: r) :
    gave f v ds (i + 1) = gave f v ds i ++ (if f d = true then [v d] else []) := by
  have h : ds[i]? = some d := by
    have q : (ds.drop i)[0]? = some d := by rw [e] <;> rfl
    rw [List.getElem?_drop] at q
    exact q
  unfold gave
  rw [List.take_add_one, h]
  show (List.filter f (List.take i ds ++ [d])).map v = _
  rw [List.filter_append, List.map_append]
  cases q : f d with
  | true => rw [if_pos rfl, List.filter_cons, if_pos q] <;> rfl
  | false => rw [if_neg (by decide), List.filter_cons, if_neg (by rw [q]; decide)] <;> rfl
theorem gave_all (f : α → Bool) (v : α → V) (ds : List α) : gave f v ds ds.length = (ds.filter f).map v := by
  unfold gave
  rw [List.take_length]
def LcW (H : Hp) (D : Addr) (f : α → Bool) (v : α → V) (ds : List α) (i : Nat) (H' : Hp) : Prop := H D = none ∧ Ex H H' ∧ H' D = some (.lst (gave f v ds i))
/-- one turn, its continuations open -/
def LcT (g : TG) (tt : TT) (te : TE) (vs : List Nat) (σ : St) (f : α → Bool) (v : α → V) (x : V) (d : α) (H' : Hp) : Prop :=
  ∀ (R : Hp → Prop) (S : VK), (f d = false → ∀ H3, Ex H' H3 → R H3) → (f d = true → ∀ H3, Ex H' H3 → S (v d) H3) →
    g x (wipe σ vs) H' fun σ2 H2 => wipe σ2 vs = wipe σ vs ∧ tt σ2 H2 fun b H3 => if b = true then te σ2 H3 S else R H3
theorem lc_turn {D : Addr} {f : α → Bool} {v : α → V} {i : Nat} {x : V} {d : α} {H' : Hp} {rest : List α} (hz : ds.length ≤ 100000) (w : LcW H D f v ds i H') (e : ds.drop i = d :: rest) (t : LcT g tt te vs σ f v x d H') :
    g x (wipe σ vs) H' fun σ2 H2 => wipe σ2 vs = wipe σ vs ∧ tt σ2 H2 fun b H3 =>
      if b = true then te σ2 H3 fun y H4 => ∃ acc, H4 D = some (.lst acc) ∧ acc.length < sizeLine ∧ LcW H D f v ds (i + 1) (upd H4 D (.lst (acc ++ [y]))) else LcW H D f v ds (i + 1) H3 := by
  obtain ⟨w1, w2, w3⟩ := w
  have en := gave_next (f := f) (v := v) e
  refine t _ _ (fun hf H3 e3 => ⟨w1, w2.trans e3, ?_⟩) (fun hf H3 e3 => ⟨_, e3 D _ w3, ?_, w1, Evl.Ex.mut (w2.trans e3) w1, ?_⟩)
  · rw [en, hf, if_neg (by decide), List.append_nil]
    exact e3 D _ w3
  · exact Nat.lt_of_le_of_lt (Nat.le_trans (gave_len f v ds i) hz) (by decide)
  · rw [en, hf, if_pos rfl]
    exact upd_same
/-- a comprehension over the value that its iterable has given -/
def tLcT (K : PySem.W.Frag) (x : V) (g : TG) (tt : TT) (te : TE) (vs : List Nat) : TE := tLc (iTup K fun _ H1 R => R x H1) g tt te vs
def tLcL (K : PySem.W.Frag) (x : V) (g : TG) (tt : TT) (te : TE) (vs : List Nat) : TE := tLc (iList K fun _ H1 R => R x H1) g tt te vs
theorem g_lcTup {tl : TE} (h : tl σ H fun x H1 => tLcT K x g tt te vs σ H1 Q) : tLc (iTup K tl) g tt te vs σ H Q := h
theorem g_lcList {tl : TE} (h : tl σ H fun x H1 => tLcL K x g tt te vs σ H1 Q) : tLc (iList K tl) g tt te vs σ H Q := h
theorem g_lcRng1 {ta : TA} (h : ta σ H fun us H1 => tLc (iRng1 fun _ H2 R => R us H2) g tt te vs σ H1 Q) : tLc (iRng1 ta) g tt te vs σ H Q := h
theorem g_lcRng2 {ta : TA} (h : ta σ H fun us H1 => tLc (iRng2 fun _ H2 R => R us H2) g tt te vs σ H1 Q) : tLc (iRng2 ta) g tt te vs σ H Q := h
theorem g_lcT (hx : SqT K H a xs) (hp : Paired (F H) xs ds) (hz : ds.length ≤ 100000) (f : α → Bool) (v : α → V)
    (mono : ∀ H' x d, Ex H H' → F H x d → F H' x d)
    (step : ∀ d x H', Ex H H' → F H' x d → LcT g tt te vs σ f v x d H')
    (last : ∀ D H', H D = none → Ex H H' → H' D = some (.lst ((ds.filter f).map v)) → Q (.ref D) H') :
    tLcT K (.ref a) g tt te vs σ H Q := by
  refine ⟨a, rfl, ⟨xs, hx⟩, fun D hD => lc_tup (K := K) (xs := xs) (LcW H D f v ds) ⟨hD, Evl.Ex.new hD, upd_same⟩ (fun i H' _ p => Evl.ex_t p.2.1 hx) ?_ ?_⟩
  · intro i x H' hi p
    obtain ⟨d, hd, e⟩ := at_drop hp hi
    exact lc_turn hz p e (step d x H' p.2.1 (mono _ _ _ p.2.1 hd))
  · intro H' p
    obtain ⟨p1, p2, p3⟩ := p
    rw [Paired.length hp, gave_all] at p3
    exact last D H' p1 p2 p3
theorem g_lcL (hx : SqL K H a xs) (hp : Paired (F H) xs ds) (hz : ds.length ≤ 100000) (f : α → Bool) (v : α → V)
    (mono : ∀ H' x d, Ex H H' → F H x d → F H' x d)
    (step : ∀ d x H', Ex H H' → F H' x d → LcT g tt te vs σ f v x d H')
    (last : ∀ D H', H D = none → Ex H H' → H' D = some (.lst ((ds.filter f).map v)) → Q (.ref D) H') :
    tLcL K (.ref a) g tt te vs σ H Q := by
  refine ⟨a, rfl, ⟨xs, hx⟩, fun D hD => lc_list (K := K) (xs := xs) (LcW H D f v ds) ⟨hD, Evl.Ex.new hD, upd_same⟩ (fun i H' _ p => Evl.ex_l p.2.1 hx) ?_ ?_⟩
  · intro i x H' hi p
    obtain ⟨d, hd, e⟩ := at_drop hp hi
    exact lc_turn hz p e (step d x H' p.2.1 (mono _ _ _ p.2.1 hd))
  · intro H' p
    obtain ⟨p1, p2, p3⟩ := p
    rw [Paired.length hp, gave_all] at p3
    exact last D H' p1 p2 p3
/-- the list of a range -/
def irange (lo : Int) (n : Nat) : List Int := (List.range n).map fun (i : Nat) => lo + (i : Int)
theorem irange_len (lo : Int) (n : Nat) : (irange lo n).length = n := by unfold irange; rw [List.length_map, List.length_range]
theorem irange_get {lo : Int} {n i : Nat} (h : i < n) : (irange lo n)[i]? = some (lo + (i : Int)) := by
  unfold irange
  rw [List.getElem?_map, List.getElem?_range h]
  rfl
theorem irange_drop {lo : Int} {n i : Nat} (h : i < n) : (irange lo n).drop i = (lo + (i : Int)) :: (irange lo n).drop (i + 1) := by
  have lt : i < (irange lo n).length := by rw [irange_len]; exact h
  rw [List.drop_eq_getElem_cons lt]
  have e := irange_get (lo := lo) h
  rw [List.getElem?_eq_getElem lt] at e
  rw [Option.some.inj e]
theorem lcR_core {lo : Int} {n : Nat} (hz : n ≤ 100000) (f : Int → Bool) (v : Int → V)
    (step : ∀ k H', Ex H H' → lo ≤ k → k < lo + n → LcT g tt te vs σ f v (.int k) k H')
    (last : ∀ D H', H D = none → Ex H H' → H' D = some (.lst (((irange lo n).filter f).map v)) → Q (.ref D) H') :
    ∀ D, H D = none → ∃ W : Nat → Nat → Hp → Prop, (∃ m, W 0 m (upd H D (.lst []))) ∧ ∀ i m H, W i m H →
      ((Itr lo n).stop i H ∧ Q (.ref D) H) ∨ ((Itr lo n).go i H ∧ ∃ Nx : Hp → Prop, (∀ H', Nx H' → ∃ m', m' < m ∧ W (i + 1) m' H') ∧ ∀ x H', (Itr lo n).yld i H x H' → g x (wipe σ vs) H' fun σ2 H2 => wipe σ2 vs = wipe σ vs ∧ tt σ2 H2 fun b H3 =>
        if b = true then te σ2 H3 fun y H4 => ∃ acc, H4 D = some (.lst acc) ∧ acc.length < sizeLine ∧ Nx (upd H4 D (.lst (acc ++ [y]))) else Nx H3) := by
  have len : (irange lo n).length = n := by unfold irange; rw [List.length_map, List.length_range]
  refine fun D hD => lc_range (lo := lo) (n := n) (LcW H D f v (irange lo n)) ⟨hD, Evl.Ex.new hD, upd_same⟩ ?_ ?_
  · intro i H' hi p
    exact lc_turn (by rw [len]; exact hz) p (irange_drop hi) (step _ H' p.2.1 (by omega) (by omega))
  · intro H' p
    obtain ⟨p1, p2, p3⟩ := p
    have e : gave f v (irange lo n) n = ((irange lo n).filter f).map v := by
      have q := gave_all f v (irange lo n)
      rw [len] at q
      exact q
    rw [e] at p3
    exact last D H' p1 p2 p3
theorem g_lcR2 {lo hi : Int} (b1 : -(2 ^ 60) ≤ lo) (b2 : hi ≤ 2 ^ 60) (b3 : lo ≤ hi) (b4 : hi - lo ≤ 100000) (f : Int → Bool) (v : Int → V)
    (step : ∀ k H', Ex H H' → lo ≤ k → k < hi → LcT g tt te vs σ f v (.int k) k H')
    (last : ∀ D H', H D = none → Ex H H' → H' D = some (.lst (((irange lo (hi - lo).toNat).filter f).map v)) → Q (.ref D) H') :
    tLc (iRng2 fun _ H2 R => R [.int lo, .int hi] H2) g tt te vs σ H Q := by
  have c1 : -(2 ^ 62) ≤ lo := by omega
  have c2 : lo < 2 ^ 62 := by omega
  have c3 : -(2 ^ 62) ≤ hi := by omega
  have c4 : hi < 2 ^ 62 := by omega
  exact ⟨lo, hi, rfl, ⟨c1, c2, c3, c4⟩, lcR_core (by omega) f v (fun k H' e h1 h2 => step k H' e h1 (by omega)) last⟩
theorem g_lcR1 {hi : Int} (b2 : hi ≤ 100000) (b3 : 0 ≤ hi) (f : Int → Bool) (v : Int → V)
    (step : ∀ k H', Ex H H' → 0 ≤ k → k < hi → LcT g tt te vs σ f v (.int k) k H')
    (last : ∀ D H', H D = none → Ex H H' → H' D = some (.lst (((irange 0 hi.toNat).filter f).map v)) → Q (.ref D) H') :
    tLc (iRng1 fun _ H2 R => R [.int hi] H2) g tt te vs σ H Q :=
  ⟨hi, rfl, by omega, by omega, lcR_core (by omega) f v (fun k H' e h1 h2 => step k H' e h1 (by omega)) last⟩
end
/-! ### a set of ints over a list of ints -/
section
variable {w : World} {K : PySem.W.Frag} {a : Addr} {ns : List Int} {g : TG} {tt : TT} {te : TE} {vs : List Nat} {σ : St} {H : Hp} {Q : VK}
/-- the members so far -/
def mem_ (f : Int → Bool) (v : Int → Int) (ns : List Int) (i : Nat) (k : Int) : Bool := (ns.take i).any fun h => f h && decide (k = v h)
def ScW (w : World) (H : Hp) (D : Addr) (f : Int → Bool) (v : Int → Int) (ns : List Int) (i : Nat) (H' : Hp) : Prop :=
  H D = none ∧ Ex H H' ∧ ∃ c, c ≤ i ∧ H' D = some (SetO w D (mem_ f v ns i) c)
def ScT (g : TG) (tt : TT) (te : TE) (vs : List Nat) (σ : St) (f : Int → Bool) (v : Int → Int) (x : V) (d : Int) (H' : Hp) : Prop :=
  ∀ (R : Hp → Prop) (S : VK), (f d = false → ∀ H3, Ex H' H3 → R H3) → (f d = true → ∀ H3, Ex H' H3 → S (.int (v d)) H3) →
    g x (wipe σ vs) H' fun σ2 H2 => wipe σ2 vs = wipe σ vs ∧ tt σ2 H2 fun b H3 => if b = true then te σ2 H3 S else R H3
theorem mem_next {f : Int → Bool} {v : Int → Int} {i : Nat} {d : Int} {r : List Int} (e : ns.drop i = d :: r) :
    mem_ f v ns (i + 1) = fun k => mem_ f v ns i k || (f d && decide (k = v d)) := by
  have h : ns[i]? = some d := by
    have q : (ns.drop i)[0]? = some d := by rw [e] <;> rfl
    rw [List.getElem?_drop] at q
    exact q
  funext k
  unfold mem_
  rw [List.take_add_one, h]
  show (List.take i ns ++ [d]).any _ = _
  rw [List.any_append]
  show (_ || ((f d && decide (k = v d)) || false)) = _
  rw [Bool.or_false]
def tScL (w : World) (K : PySem.W.Frag) (x : V) (g : TG) (tt : TT) (te : TE) (vs : List Nat) : TE := tScI w (iList K fun _ H1 R => R x H1) g tt te vs
theorem g_scList {tl : TE} (h : tl σ H fun x H1 => tScL w K x g tt te vs σ H1 Q) : tScI w (iList K tl) g tt te vs σ H Q := h
theorem g_scL (hx : SqL K H a (ns.map V.int)) (hz : ns.length ≤ 60) (f : Int → Bool) (v : Int → Int)
    (step : ∀ d H', Ex H H' → ScT g tt te vs σ f v (.int d) d H')
    (last : ∀ D H' c, H D = none → Ex H H' → c ≤ ns.length → H' D = some (SetO w D (mem_ f v ns ns.length) c) → Q (.ref D) H') :
    tScL w K (.ref a) g tt te vs σ H Q := by
  refine ⟨a, rfl, ⟨_, hx⟩, fun D hD => ?_⟩
  refine ⟨fun i m H' => m = ns.length - i ∧ i ≤ ns.length ∧ ScW w H D f v ns i H', ⟨ns.length, rfl, Nat.zero_le _, hD, Evl.Ex.new hD, 0, Nat.le_refl _, upd_same⟩, ?_⟩
  rintro i m H' ⟨rfl, hi, w1, w2, c, hc, w3⟩
  have q : SqL K H' a (ns.map V.int) := Evl.ex_l w2 hx
  by_cases lt : i < ns.length
  · have hi' : (ns.map V.int)[i]? = some (V.int ns[i]) := by
      rw [List.getElem?_map, List.getElem?_eq_getElem lt] <;> rfl
    have e : ns.drop i = ns[i] :: ns.drop (i + 1) := List.drop_eq_getElem_cons lt
    refine .inr ⟨⟨_, _, q, hi'⟩, ScW w H D f v ns (i + 1), fun G p => ⟨ns.length - (i + 1), by omega, rfl, lt, p⟩, fun x G y => ?_⟩
    obtain ⟨e1, y⟩ := y
    subst e1
    have ex := y _ q
    rw [hi'] at ex
    have ex := (Option.some.inj ex).symm
    subst ex
    have en := mem_next (f := f) (v := v) e
    refine step ns[i] G w2 _ _ (fun hf H3 e3 => ⟨w1, w2.trans e3, c, Nat.le_succ_of_le hc, ?_⟩) (fun hf H3 e3 => ⟨v ns[i], _, c, rfl, e3 D _ w3, ?_, w1, Evl.Ex.mut (w2.trans e3) w1, ?_⟩)
    · rw [e3 D _ w3, en, hf]
      congr 2
      funext k
      rw [Bool.false_and, Bool.or_false]
    · have hb : scanBound = scanBound := rfl
      exact Nat.lt_of_le_of_lt (show c + 1 ≤ 61 by omega) (by unfold scanBound; decide)
    · refine ⟨_, ?_, by rw [upd_same, en, hf]; simp only [Bool.true_and]; rfl⟩
      split <;> omega
  · have e : i = ns.length := by omega
    subst e
    exact .inl ⟨⟨_, q, by rw [List.length_map]; exact Nat.le_refl _⟩, last D H' c w1 w2 hc w3⟩
end
section
variable {K : PySem.W.Frag} {H H' : Hp}
theorem dpAll_pd : ∀ {vs : List V} {ds : List PyData}, DpAll K H vs ds → Paired (Dp K H) vs ds
  | _, _, .nil => .nil
  | _, _, .cons h t => .cons h (dpAll_pd t)
theorem pd_dpAll : ∀ {vs : List V} {ds : List PyData}, Paired (Dp K H) vs ds → DpAll K H vs ds
  | _, _, .nil => .nil
  | _, _, .cons h t => .cons h (pd_dpAll t)
mutual
theorem dp_tr (e : TrT K H H') (l : TrL K H H') : ∀ (d : PyData) (v : V), Dp K H v d → Dp K H' v d
  | .none, _, h => by cases h; exact .non
  | .bool b, _, h => by cases h; exact .bl b
  | .int b, _, h => by cases h; exact .int b
  | .str b, _, h => by cases h; exact .str b
  | .list ds, _, h => by
    cases h with
    | lst h1 h2 => exact .lst (l _ _ h1) (dpAll_tr e l ds _ h2)
  | .tuple ds, _, h => by
    cases h with
    | tup h1 h2 => exact .tup (e _ _ h1) (dpAll_tr e l ds _ h2)
  | .dict _, _, h => by cases h
theorem dpAll_tr (e : TrT K H H') (l : TrL K H H') : ∀ (ds : List PyData) (vs : List V), DpAll K H vs ds → DpAll K H' vs ds
  | [], _, h => by cases h; exact .nil
  | d :: ds, _, h => by
    cases h with
    | cons h1 h2 => exact .cons (dp_tr e l d _ h1) (dpAll_tr e l ds _ h2)
end
theorem dp_ex (e : Ex H H') {d : PyData} {v : V} (h : Dp K H v d) : Dp K H' v d := dp_tr (TrT.of e) (TrL.of e) d v h
/-- data of tuples, at most n deep -/
def fits : Nat → PyData → Bool
  | _, .none => true
  | _, .bool _ => true
  | _, .int _ => true
  | _, .str _ => true
  | n + 1, .tuple xs => decide (xs.length ≤ 1000) && xs.all (fits n)
  | _, _ => false
theorem fits_tuple {n : Nat} {xs : List PyData} : fits (n + 1) (.tuple xs) = (decide (xs.length ≤ 1000) && xs.all (fits n)) := rfl
theorem dp_trT (e : TrT K H H') : ∀ (n : Nat) (d : PyData) (v : V), fits n d = true → Dp K H v d → Dp K H' v d := by
  intro n
  induction n with
  | zero =>
    intro d v f h
    cases h with
    | non => exact .non
    | bl b => exact .bl b
    | int b => exact .int b
    | str b => exact .str b
    | lst h1 h2 => cases f
    | tup h1 h2 => cases f
  | succ n ih =>
    intro d v f h
    cases h with
    | non => exact .non
    | bl b => exact .bl b
    | int b => exact .int b
    | str b => exact .str b
    | lst h1 h2 => cases f
    | @tup a xs ds h1 h2 =>
      refine .tup (e _ _ h1) (pd_dpAll ?_)
      have f' : ∀ x ∈ ds, fits n x = true := List.all_eq_true.mp (Bool.and_eq_true_iff.mp (show (decide (ds.length ≤ 1000) && ds.all (fits n)) = true from f)).2
      have p := dpAll_pd h2
      clear h1 h2 f
      induction p with
      | nil => exact .nil
      | @cons x d xs ds q t ih2 => exact .cons (ih d x (f' d (by simp)) q) (ih2 fun z hz => f' z (by simp [hz]))
theorem pd_map {α β γ : Type} {F : α → β → Prop} {G : α → γ → Prop} {f : β → γ} (h : ∀ a b, F a b → G a (f b)) : ∀ {xs : List α} {ys : List β}, Paired F xs ys → Paired G xs (ys.map f)
  | _, _, .nil => .nil
  | _, _, .cons q t => .cons (h _ _ q) (pd_map h t)
theorem pd_maps {α β γ : Type} {F : α → β → Prop} {f : γ → α} {g : γ → β} : ∀ (zs : List γ), (∀ z ∈ zs, F (f z) (g z)) → Paired F (zs.map f) (zs.map g)
  | [], _ => .nil
  | z :: zs, h => .cons (h z (by simp)) (pd_maps zs fun y hy => h y (by simp [hy]))
theorem dp_ints (ns : List Int) : DpAll K H (ns.map V.int) (ns.map PyData.int) := pd_dpAll (pd_maps ns fun z _ => .int z)
theorem dp_pair {v : V} {p : Int × Int} (h : PV K H v p) : Dp K H v (.tuple [.int p.1, .int p.2]) := by
  obtain ⟨a, rfl, h⟩ := h
  exact .tup h (.cons (.int _) (.cons (.int _) .nil))
/-! ### shapes -/
def sh (n : Nat) (d : PyData) : Prop := d.canLay0 = true ∧ d.depth ≤ n
theorem sh_all {n : Nat} : ∀ {ds : List PyData}, (∀ x ∈ ds, sh n x) → PyData.canLayAll0 ds = true ∧ PyData.depthAll ds ≤ n
  | [], _ => by simp [PyData.canLayAll0, PyData.depthAll]
  | d :: ds, h => by
    have h1 := h d (by simp)
    have h2 := sh_all (ds := ds) fun x hx => h x (by simp [hx])
    unfold PyData.canLayAll0 PyData.depthAll
    exact ⟨by rw [h1.1, h2.1] <;> rfl, by have := h1.2; have := h2.2; omega⟩
theorem sh_list {n : Nat} {ds : List PyData} (h : ∀ x ∈ ds, sh n x) : sh (n + 1) (.list ds) := by
  have q := sh_all h
  unfold sh PyData.canLay0 PyData.depth
  exact ⟨q.1, by have := q.2; omega⟩
theorem sh_tup {n : Nat} {ds : List PyData} (h : ∀ x ∈ ds, sh n x) : sh (n + 1) (.tuple ds) := by
  have q := sh_all h
  unfold sh PyData.canLay0 PyData.depth
  exact ⟨q.1, by have := q.2; omega⟩
theorem sh_int {n : Nat} {i : Int} : sh n (.int i) := by unfold sh PyData.canLay0 PyData.depth; exact ⟨rfl, Nat.zero_le _⟩
theorem sh_ints {n : Nat} {ns : List Int} : ∀ x ∈ ns.map PyData.int, sh n x := by
  intro x hx
  obtain ⟨i, _, rfl⟩ := List.mem_map.mp hx
  exact sh_int
theorem sh_ok {n : Nat} {d : PyData} (h : sh n d) (l : n ≤ 64) : SeqAt.shaped d = true := by
  unfold SeqAt.shaped
  rw [h.1, decide_eq_true (Nat.le_trans h.2 l)] <;> rfl
theorem eqvAll_nil (ds : List PyData) : PyData.eqvAll ds [] = ds.isEmpty := by
  cases ds with
  | nil => unfold PyData.eqvAll; rfl
  | cons d ds => unfold PyData.eqvAll; rfl
section
variable {Q : VK} {a b : Addr} {ns : List Int}
/-- xs != [] -/
theorem g_neNil (h1 : H a = some (.lst (ns.map V.int))) (h2 : H b = some (.lst [])) (k : Q (.bl (!ns.isEmpty)) H) : rNeD K (.ref a) (.ref b) H Q := by
  refine ⟨.list (ns.map PyData.int), .list [], .lst (SqL.of h1) (dp_ints ns), .lst (SqL.of h2) .nil, sh_ok (n := 1) (sh_list sh_ints) (by omega), sh_ok (n := 1) (sh_list (by simp)) (by omega), ?_⟩
  have e : PyData.eqv (.list (ns.map PyData.int)) (.list []) = ns.isEmpty := by
    show PyData.eqvAll (ns.map PyData.int) [] = ns.isEmpty
    rw [eqvAll_nil]
    cases ns <;> rfl
  rw [e]
  exact k
theorem g_eqNil (h1 : H a = some (.lst (ns.map V.int))) (h2 : H b = some (.lst [])) (k : Q (.bl ns.isEmpty) H) : rEqD K (.ref a) (.ref b) H Q := by
  refine ⟨.list (ns.map PyData.int), .list [], .lst (SqL.of h1) (dp_ints ns), .lst (SqL.of h2) .nil, sh_ok (n := 1) (sh_list sh_ints) (by omega), sh_ok (n := 1) (sh_list (by simp)) (by omega), ?_⟩
  have e : PyData.eqv (.list (ns.map PyData.int)) (.list []) = ns.isEmpty := by
    show PyData.eqvAll (ns.map PyData.int) [] = ns.isEmpty
    rw [eqvAll_nil]
    cases ns <;> rfl
  rw [e]
  exact k
end
end
theorem sh_bool {n : Nat} {i : Bool} : sh n (.bool i) := by unfold sh PyData.canLay0 PyData.depth; exact ⟨rfl, Nat.zero_le _⟩
theorem sh_none {n : Nat} : sh n .none := by unfold sh PyData.canLay0 PyData.depth; exact ⟨rfl, Nat.zero_le _⟩
theorem sh_str {n : Nat} {s : Str} (h : PyData.strOk s = true) : sh n (.str s) := by unfold sh PyData.canLay0 PyData.depth; exact ⟨h, Nat.zero_le _⟩
/-! ### a pair or a word -/
abbrev Tm := Int × Int
def encT : Option Tm → PyData
  | none => .str "refused"
  | some t => .tuple [.int t.1, .int t.2]
def TV (K : PySem.W.Frag) (H : Hp) (v : V) : Option Tm → Prop
  | none => v = .str "refused"
  | some t => PV K H v t
section
variable {K : PySem.W.Frag} {H H' : Hp} {v : V}
theorem TV.tr {o : Option Tm} (e : TrT K H H') (h : TV K H v o) : TV K H' v o := by
  cases o with
  | none => exact h
  | some t => exact PV.tr e h
theorem TV.dp {o : Option Tm} (h : TV K H v o) : Dp K H v (encT o) := by
  cases o with
  | none => cases (show v = .str "refused" from h); exact .str _
  | some t => exact dp_pair h
theorem sh_refused {n : Nat} : sh n (.str "refused") := sh_str (by decide +kernel)
theorem sh_encT {o : Option Tm} : sh 1 (encT o) := by
  cases o with
  | none => exact sh_refused
  | some t =>
    refine sh_tup fun x hx => ?_
    simp only [List.mem_cons, List.not_mem_nil, or_false] at hx
    rcases hx with rfl | rfl <;> exact sh_int
theorem eqv_tup {a b : Tm} : PyData.eqv (encT (some a)) (encT (some b)) = decide (a = b) := by
  show PyData.eqvAll [.int a.1, .int a.2] [.int b.1, .int b.2] = _
  unfold PyData.eqvAll PyData.eqvAll PyData.eqvAll PyData.eqv
  simp only [Bool.and_true]
  rw [show (a.1 == b.1) = decide (a.1 = b.1) from rfl, show (a.2 == b.2) = decide (a.2 = b.2) from rfl, ← Bool.decide_and]
  exact decide_eq_decide.mpr ⟨fun h => Prod.ext h.1 h.2, fun h => by rw [h]; exact ⟨rfl, rfl⟩⟩
theorem eqv_enc {a b : Option Tm} : PyData.eqv (encT a) (encT b) = decide (a = b) := by
  cases a with
  | none => cases b with
    | none => decide +kernel
    | some b => rfl
  | some a => cases b with
    | none => rfl
    | some b => rw [eqv_tup]; exact decide_eq_decide.mpr ⟨fun h => by rw [h], fun h => Option.some.inj h⟩
section
variable {Q : VK} {x y : V} {a b : Option Tm}
theorem g_eqT (h1 : TV K H x a) (h2 : TV K H y b) (k : Q (.bl (decide (a = b))) H) : rEqD K x y H Q :=
  ⟨_, _, h1.dp, h2.dp, sh_ok sh_encT (by omega), sh_ok sh_encT (by omega), by rw [eqv_enc]; exact k⟩
theorem g_neT (h1 : TV K H x a) (h2 : TV K H y b) (k : Q (.bl (!decide (a = b))) H) : rNeD K x y H Q :=
  ⟨_, _, h1.dp, h2.dp, sh_ok sh_encT (by omega), sh_ok sh_encT (by omega), by rw [eqv_enc]; exact k⟩
/-- "refused" in [x, y] -/
theorem g_inT {l : Addr} (h0 : H l = some (.lst [x, y])) (h1 : TV K H x a) (h2 : TV K H y b) (k : Q (.bl (decide (a = none) || decide (b = none))) H) : rInD K (.str "refused") (.ref l) H Q := by
  refine ⟨.str "refused", [encT a, encT b], .str _, .lst (SqL.of h0) (.cons h1.dp (.cons h2.dp .nil)), sh_ok (n := 1) sh_refused (by omega), sh_ok (n := 2) (sh_list ?_) (by omega), ?_⟩
  · intro z hz
    simp only [List.mem_cons, List.not_mem_nil, or_false] at hz
    rcases hz with rfl | rfl <;> exact sh_encT
  · show Q (.bl (PyData.eqv (encT a) (encT none) || (PyData.eqv (encT b) (encT none) || false))) H
    rw [eqv_enc, eqv_enc, Bool.or_false]
    exact k
end
end
/-! ### rising lists -/
theorem rise_ext : ∀ {xs ys : List Int}, xs.Pairwise (· < ·) → ys.Pairwise (· < ·) → (∀ k, k ∈ xs ↔ k ∈ ys) → xs = ys
  | [], [], _, _, _ => rfl
  | [], y :: ys, _, _, h => absurd ((h y).2 (by simp)) (by simp)
  | x :: xs, [], _, _, h => absurd ((h x).1 (by simp)) (by simp)
  | x :: xs, y :: ys, hx, hy, h => by
    rw [List.pairwise_cons] at hx hy
    have e : x = y := by
      have h1 := (h x).1 (by simp)
      have h2 := (h y).2 (by simp)
      rw [List.mem_cons] at h1 h2
      rcases h1 with h1 | h1
      · exact h1
      · rcases h2 with h2 | h2
        · exact h2.symm
        · have := hx.1 y h2
          have := hy.1 x h1
          omega
    subst e
    rw [rise_ext hx.2 hy.2 fun k => ?_]
    constructor
    · intro hk
      have q := (h k).1 (by simp [hk])
      rw [List.mem_cons] at q
      rcases q with q | q
      · have := hx.1 k hk
        omega
      · exact q
    · intro hk
      have q := (h k).2 (by simp [hk])
      rw [List.mem_cons] at q
      rcases q with q | q
      · have := hy.1 k hk
        omega
      · exact q
theorem irange_mem {lo : Int} {n : Nat} {k : Int} : k ∈ irange lo n ↔ lo ≤ k ∧ k < lo + n := by
  unfold irange
  rw [List.mem_map]
  constructor
  · rintro ⟨i, hi, rfl⟩
    rw [List.mem_range] at hi
    omega
  · rintro ⟨h1, h2⟩
    exact ⟨(k - lo).toNat, by rw [List.mem_range]; omega, by omega⟩
theorem irange_rise (lo : Int) (n : Nat) : (irange lo n).Pairwise (· < ·) := by
  unfold irange
  rw [List.pairwise_map]
  exact List.pairwise_lt_range.imp fun h => by omega
section
variable {σ : St} {H : Hp}
/-- an expression that gives v and leaves the heap as it is -/
def EvV (te : TE) (σ : St) (H : Hp) (v : V) : Prop := ∀ Q : VK, Q v H → te σ H Q
def EvK (tt : TT) (σ : St) (H : Hp) (b : Bool) : Prop := ∀ R : Bool → Hp → Prop, R b H → tt σ H R
variable {ta tb : TE} {tt : TT} {v : V} {a b c : Bool} {x y : Str} {i j : Int}
theorem evV_var {k : Nat} (e : σ[k]? = some (some v)) : EvV (tVar k) σ H v := fun Q q => ⟨v, e, q⟩
theorem evV_c : EvV (tC v) σ H v := fun Q q => q
theorem evV_not (h : EvV ta σ H (.bl a)) : EvV (tNotV ta) σ H (.bl (!a)) := fun Q q => h _ ⟨a, rfl, q⟩
theorem evV_or (h : EvV ta σ H (.bl a)) (h' : EvV tb σ H (.bl b)) : EvV (tOrV ta tb) σ H (.bl (a || b)) := fun Q q => h _ ⟨a, rfl, by
  cases a with
  | true => exact q
  | false => exact h' _ q⟩
theorem evV_and (h : EvV ta σ H (.bl a)) (h' : EvV tb σ H (.bl b)) : EvV (tAndV ta tb) σ H (.bl (a && b)) := fun Q q => h _ ⟨a, rfl, by
  cases a with
  | true => exact h' _ q
  | false => exact q⟩
theorem evK_B (h : EvV ta σ H (.bl a)) : EvK (tB ta) σ H a := fun R r => h _ ⟨a, rfl, r⟩
theorem evK_test (h : EvV ta σ H (.bl a)) : EvK (tTest ta) σ H a := fun R r => h _ ⟨a, rfl, r⟩
theorem evK_not (h : EvK tt σ H a) : EvK (tNot tt) σ H (!a) := fun R r => h _ r
theorem evV_if (h : EvK tt σ H c) (h1 : EvV ta σ H (.bl a)) (h2 : EvV tb σ H (.bl b)) : EvV (tIf tt ta tb) σ H (.bl (if c = true then a else b)) := fun Q q => h _ (by
  cases c with
  | true => exact if_t rfl (h1 _ q)
  | false => exact if_f rfl (h2 _ q))
theorem evV_eqB (h : EvV ta σ H (.bl a)) (h' : EvV tb σ H (.bl b)) : EvV (tOp rEq ta tb) σ H (.bl (a == b)) := fun Q q => h _ (h' _ (g_eqB q))
theorem evV_eqS (h : EvV ta σ H (.str x)) (h' : EvV tb σ H (.str y)) : EvV (tOp rEq ta tb) σ H (.bl (decide (x = y))) := fun Q q => h _ (h' _ (g_eqS q))
theorem evV_neS (h : EvV ta σ H (.str x)) (h' : EvV tb σ H (.str y)) : EvV (tOp rNe ta tb) σ H (.bl (!decide (x = y))) := fun Q q => h _ (h' _ (g_neS q))
theorem evV_is {v' : V} (h : EvV ta σ H v) (e : v = v') : EvV ta σ H v' := e ▸ h
theorem g_ev {Q : VK} (h : EvV ta σ H v) (q : Q v H) : ta σ H Q := h Q q
/-- a new pair of truth values -/
theorem g_pairB {Q : VK} (h1 : EvV ta σ H (.bl a)) (h2 : EvV tb σ H (.bl b)) (k : ∀ p H', H p = none → Ex H H' → H' p = some (.tup [.bl a, .bl b]) → Q (.ref p) H') : tTup (tCons ta (tCons tb tNil)) σ H Q :=
  h1 _ (h2 _ (g_newT (by simp) k))
end
section
variable {K : PySem.W.Frag} {H H' H0 : Hp} {D : Addr}
theorem TrT.frD {kvs : List (Key × V)} (hr : H D = some (.dK kvs)) (e : Fr D H H') : TrT K H H' := by
  intro a ys h
  have ne : ∀ o, H a = some o → (∀ zs, o ≠ .dK zs) → a ≠ D := fun o q n z => by
    subst z
    rw [hr] at q
    exact n kvs (Option.some.inj q).symm
  rcases h with (h | ⟨o, h⟩) | h
  · exact .inl (.inl (e a _ (ne _ h fun _ z => nomatch z) h))
  · exact .inl (.inr ⟨o, e a _ (ne _ h fun _ z => nomatch z) h⟩)
  · exact .inr h
theorem ex_fr (e : Ex H0 H) (n : H0 D = none) (f : Fr D H H') : Ex H0 H' := fun a o h => f a o (ne_of_none h n) (e a o h)
/-- a pair of truth values -/
def BP (K : PySem.W.Frag) (H : Hp) (v : V) (p : Bool × Bool) : Prop := ∃ a, v = .ref a ∧ SqT K H a [.bl p.1, .bl p.2]
theorem BP.tr {v : V} {p : Bool × Bool} (e : TrT K H H') (h : BP K H v p) : BP K H' v p := by
  obtain ⟨a, q, h⟩ := h
  exact ⟨a, q, e _ _ h⟩
/-- a dict of names and what they stand for -/
def DictAt (K : PySem.W.Frag) {α : Type} (nm : α → Str) (F : Hp → V → α → Prop) (H : Hp) (D : Addr) (rs : List α) : Prop :=
  ∃ kvs : List (Key × V), H D = some (.dK kvs) ∧ Paired (fun (kv : Key × V) r => kv.1 = (Sum.inr (nm r) : Key) ∧ F H kv.2 r) kvs rs
section
variable {α : Type} {nm : α → Str} {F : Hp → V → α → Prop}
theorem any_none {kvs : List (Key × V)} {rs : List α} {k : Str} {P : V → α → Prop} (h : Paired (fun (kv : Key × V) r => kv.1 = (Sum.inr (nm r) : Key) ∧ P kv.2 r) kvs rs) (n : ∀ r ∈ rs, nm r ≠ k) :
    (kvs.any fun kv => decide (kv.1 = (Sum.inr k : Key))) = false := by
  induction h with
  | nil => rfl
  | @cons kv r kvs rs q t ih =>
    rw [List.any_cons, ih fun x hx => n x (by simp [hx]), Bool.or_false, q.1]
    exact decide_eq_false fun e => n r (by simp) (Sum.inr.inj e)
theorem DictAt.put {rs : List α} {r : α} {v : V} {R : Hp → Prop} (h : DictAt K nm F H D rs) (mono : ∀ H' v r, TrT K H H' → F H v r → F H' v r) (n : ∀ x ∈ rs, nm x ≠ nm r) (few : rs.length < 1000) (hv : F H v r)
    (k : ∀ H', Fr D H H' → DictAt K nm F H' D (rs ++ [r]) → R H') : rSetD (.ref D) (.str (nm r)) v H R := by
  obtain ⟨kvs, hD, hp⟩ := h
  have len := Paired.length hp
  have e : putK kvs (Sum.inr (nm r) : Key) v = kvs ++ [((Sum.inr (nm r) : Key), v)] := by
    unfold putK
    rw [any_none (P := F H) hp n, if_neg (by decide)]
  have tr : TrT K H (L2.upd H D (.dK (kvs ++ [((Sum.inr (nm r) : Key), v)]))) := TrT.frD hD Fr.upd
  refine ⟨D, _, rfl, DPut.k (k := (Sum.inr (nm r) : Key)) hD (by rw [len]; exact Nat.lt_of_lt_of_le few (by decide)), ?_⟩
  rw [e]
  refine k _ Fr.upd ⟨_, upd_same, pd_app (L2.Paired.mapP hp fun _ _ q => ⟨q.1, mono _ _ _ tr q.2⟩) (.cons ⟨rfl, mono _ _ _ tr hv⟩ .nil)⟩
theorem DictAt.trT {rs : List α} (h : DictAt K nm F H D rs) (f : Fr D H H') : TrT K H H' := by
  obtain ⟨kvs, hD, _⟩ := h
  exact TrT.frD hD f
theorem DictAt.get {rs : List α} {r : α} (h : DictAt K nm F H D rs) (inj : ∀ x ∈ rs, nm x = nm r → x = r) (m : r ∈ rs) : ∃ v, DGet H D (.str (nm r)) (some v) ∧ F H v r := by
  obtain ⟨kvs, hD, hp⟩ := h
  have q : ∃ v, valV kvs (Sum.inr (nm r) : Key) = some v ∧ F H v r := by
    clear hD
    induction hp with
    | nil => cases m
    | @cons kv x kvs rs q t ih =>
      by_cases c : nm x = nm r
      · have e := inj x (by simp) c
        subst e
        exact ⟨kv.2, valV_pos q.1, q.2⟩
      · rw [valV_neg (by rw [q.1]; exact fun e => c (Sum.inr.inj e))]
        rcases List.mem_cons.mp m with e | m
        · exact (c (by rw [e])).elim
        · exact ih (fun y hy => inj y (by simp [hy])) m
  obtain ⟨v, e, f⟩ := q
  exact ⟨v, by rw [← e]; exact DGet.k (k := (Sum.inr (nm r) : Key)) hD, f⟩
theorem DictAt.tr {rs : List α} (h : DictAt K nm F H D rs) (e : Ex H H') (mono : ∀ H' v r, TrT K H H' → F H v r → F H' v r) : DictAt K nm F H' D rs := by
  obtain ⟨kvs, hD, hp⟩ := h
  exact ⟨kvs, e _ _ hD, L2.Paired.mapP hp fun _ _ q => ⟨q.1, mono _ _ _ (TrT.of e) q.2⟩⟩
end
theorem g_inL {Q : VK} {a : Addr} {xs : List V} {x : V} (q : SqL K H a xs) (f1 : flatV x = true) (f2 : xs.all flatV = true) (k : Q (.bl (inV x xs)) H) : rIn K false x (.ref a) H Q := ⟨a, xs, rfl, .inl q, f1, f2, k⟩
theorem g_inTu {Q : VK} {a : Addr} {xs : List V} {x : V} (q : SqT K H a xs) (f1 : flatV x = true) (f2 : xs.all flatV = true) (k : Q (.bl (inV x xs)) H) : rIn K false x (.ref a) H Q := ⟨a, xs, rfl, .inr q, f1, f2, k⟩
theorem inV_strs (x : Str) : ∀ xs : List Str, inV (.str x) (xs.map V.str) = xs.any fun y => decide (y = x)
  | [] => rfl
  | y :: ys => by
    show (eqV (.str y) (.str x) || inV (.str x) (ys.map V.str)) = (decide (y = x) || ys.any fun y => decide (y = x))
    rw [inV_strs x ys]
    rfl
end
section
open He
/-- the object that the key x stands for in the table at a -/
def dctAt (a : PySem.W.Frag → Addr) (x : Str) (K : PySem.W.Frag) : Addr := match PySem.W.nsIn K (a K) x with
  | some (some (.ref b)) => b
  | _ => 0
def gaF (x : Str) (K : PySem.W.Frag) : Addr := ga K x
/-- a tuple found by a path -/
def tupD (a : PySem.W.Frag → Addr) (vs : List Dv) (K : PySem.W.Frag) : Bool := match K.lookup (a K) with
  | some ⟨.type c, _, .seq its _, _⟩ => decide (c = "tuple") && (decide (its.size ≤ sizeLine) && relAll (vs.map (Dv.v K)) its.toList)
  | _ => false
theorem tupD_ok {K : PySem.W.Frag} {a : PySem.W.Frag → Addr} {vs : List Dv} (h : tupD a vs K = true) (H : Hp) : SqT K H (a K) (vs.map (Dv.v K)) := by
  unfold tupD at h
  split at h
  next c od its n sl q =>
    obtain ⟨h1, h2⟩ := ba h
    obtain ⟨h3, h4⟩ := ba h2
    exact .inr ⟨_, its, n, q, by rw [of_decide_eq_true h1], rfl, of_decide_eq_true h3, relAll_ok h4⟩
  next => cases h
def valsD (a : PySem.W.Frag → Addr) (kvs : List (Str × Dv)) (K : PySem.W.Frag) : Bool := valsB K (a K) kvs
theorem kdct_of {K : PySem.W.Frag} {w : World} {a : PySem.W.Frag → Addr} {kvs : List (Str × Dv)} (d : ∃ es n, KDict K w (a K) es n) (h : valsD a kvs K = true) {q : Str × Dv} (hq : q ∈ kvs) : KDct K w (a K) q.1 (q.2.v K) := by
  obtain ⟨es, n, d⟩ := d
  obtain ⟨u, e, r⟩ := valsB_ok h hq
  exact ⟨es, n, u, d.1, d.2, e, r⟩
/-- a table's key's object stands where the path says -/
def adrB (a : PySem.W.Frag → Addr) (x : Str) (K : PySem.W.Frag) : Bool := eqO (PySem.W.nsIn K (a K) x) (some (some (.ref (dctAt a x K))))
abbrev AlX : Type := AlT × Bool
def obsX (fa : List Fa) (fn : List DefD) (ts : List Tab) (ps : List (PySem.W.Frag → Bool)) (K : PySem.W.Frag) : AlX := (obsT fa fn ts K, ps.all fun p => p K)
def valX (fn : List DefD) (ts : List Tab) (w : World) : AlX := (valT fn ts w, true)
def obsXG (n : Nat) (fa : List Fa) (fn : List DefD) (ts : List Tab) (ps : List (PySem.W.Frag → Bool)) (g : Addr → Option Obj) : AlX := obsX fa fn ts ps (frG g (asD g n))
def SaysX (fa : List Fa) (fn : List DefD) (ts : List Tab) (ps : List (PySem.W.Frag → Bool)) (w : World) (K : PySem.W.Frag) : Prop := obsX fa fn ts ps K = valX fn ts w
def hookX (n : Nat) (fa : List Fa) (fn : List DefD) (ts : List Tab) (ps : List (PySem.W.Frag → Bool)) : PySem.W.Hook where
  α := AlX
  obs := fun s => obsXG n fa fn ts ps s.heap.get?
  val := fun w => valX fn ts w
  says := fun w h => ∃ K : PySem.W.Frag, K.In h ∧ SaysX fa fn ts ps w K
  of := fun _ _ e => ⟨_, frG_in, e⟩
  keeps := fun _ _ _ ⟨K, hK, c⟩ k => ⟨K, PySem.W.Frag.In.keeps hK k, c⟩
theorem obsXG_eq {n : Nat} {fa : List Fa} {fn : List DefD} {ts : List Tab} {ps : List (PySem.W.Frag → Bool)} {g : Addr → Option Obj} {s : Shared} (h : ∀ a, g a = s.heap.get? a) : obsXG n fa fn ts ps g = (hookX n fa fn ts ps).obs s := by
  have e : g = s.heap.get? := funext h
  rw [e] <;> rfl
section
variable {fa : List Fa} {fn : List DefD} {ts : List Tab} {ps : List (PySem.W.Frag → Bool)} {w : World} {K : PySem.W.Frag}
theorem SaysX.t (c : SaysX fa fn ts ps w K) : SaysT fa fn ts w K := congrArg (fun z : AlX => z.1) c
theorem SaysX.p (c : SaysX fa fn ts ps w K) (i : Nat) {p : PySem.W.Frag → Bool} (h : ps[i]? = some p := by rfl) : p K = true :=
  List.all_eq_true.mp (congrArg (fun z : AlX => z.2) c) p (List.mem_of_getElem? h)
end
end
/-! ### match over texts -/
def isOne (z : Str) (ps : List Str) : Bool := ps.any fun p => decide (z = p)
structure PPat (X : Cx) (p : Pattern) (ps : List Str) : Prop where
  run : ∀ (pins : List (Addr × Obj)) (s : Shared) (σ : St) (H : Hp) (z : Str) (t : Tok) (Q : Option (List (Str × Value)) → Shared → Prop), Inv X pins σ H s →
    (∀ s', Inv X pins σ H s' → Q (if isOne z ps = true then some [] else none) s') → wpAny (model X.prog X.w) X.A (matchPattern p X.env (.str z t)) Q X.xe s
structure POr (X : Cx) (p : List Pattern) (ps : List Str) : Prop where
  run : ∀ (pins : List (Addr × Obj)) (s : Shared) (σ : St) (H : Hp) (z : Str) (t : Tok) (Q : Option (List (Str × Value)) → Shared → Prop), Inv X pins σ H s →
    (∀ s', Inv X pins σ H s' → Q (if isOne z ps = true then some [] else none) s') → wpAny (model X.prog X.w) X.A (matchFirst p X.env (.str z t)) Q X.xe s
def tCases : List (List Str × TS) → Str → TS
  | [], _ => fun D σ H => D.nx σ H
  | c :: r, z => fun D σ H => if isOne z c.1 = true then c.2 D σ H else tCases r z D σ H
structure PCs (X : Cx) (cs : List MatchCase) (tcs : List (List Str × TS)) : Prop where
  run : ∀ (pins : List (Addr × Obj)) (s : Shared) (σ : St) (H : Hp) (D : Ends) (z : Str) (t : Tok) (first : Bool), Inv X pins σ H s → tCases tcs z D σ H →
    wpAny (model X.prog X.w) X.A (matchCases cs X.env (.str z t) first) (SP X pins D) X.xe s
def tMatch (te : TE) (tcs : List (List Str × TS)) : TS := fun D σ H => te σ H fun x H1 => ∃ z, x = .str z ∧ tCases tcs z D σ H1
section
variable {X : Cx} {pos pos' : Pos}
theorem pat_str {x : Str} {j : Nat} : PPat X (.MatchValue (.Constant (.str x) j pos) pos') [x] := by
  refine ⟨fun pins s σ H z t Q I h => ?_⟩
  refine wpAny_matchPattern_Value (thn (pe_str.run pins s σ H (fun v H1 => v = .str x ∧ H1 = H) I ⟨rfl, rfl⟩) fun v s1 ⟨y, H1, I1, r1, e1, e2⟩ => ?_)
  subst e1 e2
  refine thn (op_eq pins s1 σ _ (.str z) (.str x) _ _ (fun c H2 => c = .bl (decide (V.str z = V.str x)) ∧ H2 = _) I1 ⟨t, rfl⟩ r1 ⟨rfl, rfl, rfl⟩) fun c s2 ⟨y, H2, I2, r2, e1, e2⟩ => ?_
  subst e1 e2
  cases r2
  refine wpAny_truthy_bool ?_
  have q := h s2 I2
  have e : isOne z [x] = decide (V.str z = V.str x) := by
    unfold isOne
    rw [List.any_cons, List.any_nil, Bool.or_false]
    exact decide_eq_decide.mpr ⟨fun e => by rw [e], fun e => V.str.inj e⟩
  rw [e] at q
  cases c : decide (V.str z = V.str x) with
  | true => rw [c] at q; exact q
  | false => rw [c] at q; exact q
theorem por_nil : POr X [] [] := ⟨fun pins s σ H z t Q I h => wpAny_matchFirst_nil (h s I)⟩
theorem por_cons {p : Pattern} {ps : List Pattern} {xs ys : List Str} (hp : PPat X p xs) (hr : POr X ps ys) : POr X (p :: ps) (xs ++ ys) := by
  refine ⟨fun pins s σ H z t Q I h => ?_⟩
  refine wpAny_matchFirst_cons (hp.run pins s σ H z t _ I fun s1 I1 => ?_)
  have e : isOne z (xs ++ ys) = (isOne z xs || isOne z ys) := List.any_append
  rw [e] at h
  cases c : isOne z xs with
  | true =>
    rw [c] at h
    exact h s1 I1
  | false =>
    rw [c] at h
    exact hr.run pins s1 σ H z t Q I1 fun s2 I2 => h s2 I2
theorem pat_or {ps : List Pattern} {zs : List Str} (h : POr X ps zs) (hn : namesOfAll (ps.take 1) = [] := by rfl) : PPat X (.MatchOr ps pos) zs := by
  refine ⟨fun pins s σ H z t Q I hq => ?_⟩
  refine wpAny_matchPattern_Or (h.run pins s σ H z t _ I fun s1 I1 => ?_)
  have q := hq s1 I1
  cases c : isOne z zs with
  | true =>
    rw [c] at q
    show Q (some ((namesOfAll (ps.take 1)).filterMap _)) s1
    rw [hn]
    exact q
  | false =>
    rw [c] at q
    exact q
theorem pcs_nil : PCs X [] [] := ⟨fun _ _ σ H _ _ _ _ I h => wpAny_matchCases_nil ⟨σ, H, I, h⟩⟩
theorem pcs_cons {p : Pattern} {ps : List Str} {body : List Stmt} {t : TS} {rest : List MatchCase} {tcs : List (List Str × TS)} (hp : PPat X p ps) (hb : PSs X body t) (hr : PCs X rest tcs) : PCs X (⟨p, none, body⟩ :: rest) ((ps, t) :: tcs) := by
  refine ⟨fun pins s σ H D z tk first I h => ?_⟩
  refine wpAny_matchCases_cons (hp.run pins s σ H z tk _ I fun s1 I1 => ?_)
  have h : if isOne z ps = true then t D σ H else tCases tcs z D σ H := h
  cases c : isOne z ps with
  | true =>
    rw [c] at h
    exact wpAny_assignInOrder_none (hb.run pins s1 σ H D I1 h)
  | false =>
    rw [c] at h
    exact hr.run pins s1 σ H D z tk false I1 h
theorem ps_match {e : Expr} {te : TE} {cs : List MatchCase} {tcs : List (List Str × TS)} (he : PE X e te) (hc : PCs X cs tcs) : PS X (.Match e cs pos) (tMatch te tcs) := by
  refine ⟨fun pins s σ H D I h => ?_⟩
  refine wpAny_Match (thn (he.run pins s σ H _ I h) fun v s1 ⟨x, H1, I1, r1, z, e1, q⟩ => ?_)
  subst e1
  obtain ⟨t, rfl⟩ := r1
  exact hc.run pins s1 σ H1 D z t true I1 q
/-! ### the truth of a list or tuple -/
def tTru (K : PySem.W.Frag) (ta : TE) : TT := fun σ H Q => ta σ H fun x H' => ∃ k, TruV K x H' k ∧ Q k H'
theorem pt_tru {a : Expr} {ta : TE} (ha : PE X a ta) (he : ∀ whole, isTrue a X.env whole = (do let v ← whole; standAt a.pos; holding [v] (truthy v)) := by intro _; rfl) : PT X a (tTru X.K ta) := pt_truth ha he
end
section
variable {σ : St} {H : Hp} {n : St → Hp → Prop} {r : VK} {b c : St → Hp → Prop} {Q : VK} {z : Str} {D : Ends}
theorem g_match {te : TE} {tcs : List (List Str × TS)} (h : te σ H fun x H1 => ∃ z, x = .str z ∧ tCases tcs z (Ends.mk n r b c) σ H1) : tMatch te tcs (Ends.mk n r b c) σ H := h
theorem g_mstr {R : Str → Prop} (h : R z) : ∃ z', V.str z = V.str z' ∧ R z' := ⟨z, rfl, h⟩
theorem g_case {ps : List Str} {t : TS} {tcs : List (List Str × TS)} (h : if isOne z ps = true then t D σ H else tCases tcs z D σ H) : tCases ((ps, t) :: tcs) z D σ H := h
theorem g_caseT {ps : List Str} {t : TS} {tcs : List (List Str × TS)} (e : isOne z ps = true) (h : t D σ H) : tCases ((ps, t) :: tcs) z D σ H := g_case (if_t e h)
theorem g_caseF {ps : List Str} {t : TS} {tcs : List (List Str × TS)} (e : isOne z ps = false) (h : tCases tcs z D σ H) : tCases ((ps, t) :: tcs) z D σ H := g_case (if_f e h)
theorem g_caseN (h : n σ H) : tCases [] z (Ends.mk n r b c) σ H := h
theorem g_truT {K : PySem.W.Frag} {a : Addr} {xs : List V} {R : Bool → Prop} (q : SqT K H a xs) (h : R (!xs.isEmpty)) : ∃ k, TruV K (.ref a) H k ∧ R k := ⟨_, .inr (.inl ⟨xs, q, rfl⟩), h⟩
theorem g_tru {K : PySem.W.Frag} {ta : TE} {R : Bool → Hp → Prop} (h : ta σ H fun x H' => ∃ k, TruV K x H' k ∧ R k H') : tTru K ta σ H R := h
end
/-! ### x(e, .., *y), x a local name that holds a def -/
def HeldS (P : Program) (w : World) (K : PySem.W.Frag) (mg : Str → Option Value) (base : Heap) (k : Nat) (f : Addr) (sp : Sp) : Prop :=
  ∃ (fd : FuncData) (ps : List Str), FnOk P w K mg base CX0 k f fd ps sp ∧ PySem.W.keepIn K (.ref f) = true ∧ Binds K fd ps []
def tCallH (P : Program) (w : World) (K : PySem.W.Frag) (mg : Str → Option Value) (base : Heap) (k : Nat) (tf : TE) (t : TA) : TE := fun σ H Q => tf σ H fun v H0 =>
  ∃ f sp, v = .ref f ∧ HeldS P w K mg base k f sp ∧ t σ H0 fun vs H1 => sp vs H1 Q (fun _ _ _ => False)
theorem pe_callH {X : Cx} {k : Nat} {x : Str} {p pos : Pos} {e : Expr} {es : List Expr} {tf : TE} {t : TA} (hr : Room k X.A) (hf : PE X (.Name x p) tf) (ha : PA X (e :: es) t)
    (he : starEach (e :: es) X.env = (false, eval e X.env) :: starEach es X.env := by rfl) (hst : (backTo pos (starEach es X.env)).any (·.1) = true := by rfl) :
    PE X (.Call (.Name x p) (e :: es) [] pos) (tCallH X.prog X.w X.K X.mg X.base k tf t) := by
  refine ⟨fun pins s σ H Q I h => ?_⟩
  refine wpAny_Call_Name_kw (thn (hf.run pins s σ H _ I h) fun u s1 ⟨v, H1, I1, r1, f, sp, ev, ⟨fd, ps, F, hk, hb⟩, ht⟩ => ?_)
  subst ev
  cases r1
  refine PySem.W.callWith_S2 (h₀ := X.base) I.ok.mod.kin hk (thn (ha.run pos pins s1 σ _ _ I1 ht) fun us s2 ⟨vs, H2, I2, r, q⟩ => ⟨I2.kIn, ?_⟩) he hst
  have q' : sp (vs ++ []) H2 Q (fun _ _ _ => False) := by rw [List.append_nil]; exact q
  exact run_fn (E := fun _ _ _ => False) (CX := CX0) F hr hb .nil (fun _ _ _ _ _ _ _ z => z.elim) I2 r q'
section
variable {σ : St} {H : Hp} {Q : VK}
theorem g_callH {P : Program} {w : World} {K : PySem.W.Frag} {mg : Str → Option Value} {base : Heap} {k : Nat} {tf : TE} {t : TA} (h : tf σ H fun v H0 => ∃ f sp, v = .ref f ∧ HeldS P w K mg base k f sp ∧ t σ H0 fun vs H1 => sp vs H1 Q (fun _ _ _ => False)) :
    tCallH P w K mg base k tf t σ H Q := h
theorem HeldS.of {P : Program} {w : World} {K : PySem.W.Frag} {mg : Str → Option Value} {base : Heap} {j k : Nat} {x : Str} {st : Stmt} {ps : List Str} {sp : Sp} (a : FA K mg x st ps) (F : FnOk P w K mg base CX0 j a.f a.fd ps sp) (h : j ≤ k) : HeldS P w K mg base k a.f sp :=
  ⟨a.fd, ps, F.mono h, a.F.kp, a.b⟩
/-- *y: a tuple's items -/
theorem g_starT {K : PySem.W.Frag} {te : TE} {t : TA} {R : List V → Hp → Prop} (h : te σ H fun x H1 => ∃ p xs, x = V.ref p ∧ SqT K H1 p xs ∧ t σ H1 fun ys H2 => R (xs ++ ys) H2) (mono : ∀ S S' : VK, (∀ v H', S v H' → S' v H') → te σ H S → te σ H S') : StX.tStar K te t σ H R := by
  refine mono _ _ ?_ h
  rintro v H' ⟨p, xs, e, q, k⟩
  exact ⟨p, xs, e, .inl q, k⟩
theorem g_starV {K : PySem.W.Frag} {i : Nat} {p : Addr} {xs : List V} {t : TA} {R : List V → Hp → Prop} (e : σ[i]? = some (some (.ref p))) (q : SqT K H p xs) (h : t σ H fun ys H2 => R (xs ++ ys) H2) : StX.tStar K (tVar i) t σ H R :=
  ⟨_, e, p, xs, rfl, .inl q, h⟩
end
/-! ### a comprehension over zip of two tuples -/
def tLcZ (K : PySem.W.Frag) (a b : Addr) (g : TG) (tt : TT) (te : TE) (vs : List Nat) : TE := tLc (fun _ H R => R (RZ.ItzT K a b) H) g tt te vs
section
variable {K : PySem.W.Frag} {σ : St} {H : Hp} {Q : VK} {g : TG} {tt : TT} {te : TE} {vs : List Nat} {a b : Addr} {xs ys : List V}
theorem g_lcZip {ta : TA} (h : ta σ H fun us H1 => ∃ a b xs ys, us = [.ref a, .ref b] ∧ SqT K H1 a xs ∧ SqT K H1 b ys ∧ tLcZ K a b g tt te vs σ H1 Q) (mono : ∀ S S' : List V → Hp → Prop, (∀ v H', S v H' → S' v H') → ta σ H S → ta σ H S') :
    tLc (RZ.iZipA K ta) g tt te vs σ H Q := by
  refine mono _ _ ?_ h
  rintro us H' ⟨a, b, xs, ys, e, q, q', k⟩
  exact ⟨a, b, xs, ys, e, .inr ⟨q, q', k⟩⟩
theorem g_lcZ (hx : SqT K H a xs) (hy : SqT K H b ys) (hl : xs.length = ys.length) (hz : xs.length ≤ 1000) (v : Nat → V)
    (step : ∀ i x y T H', xs[i]? = some x → ys[i]? = some y → Ex H H' → SqT K H' T [x, y] → ∀ S : VK, (∀ H3, Ex H' H3 → S (v i) H3) →
      g (.ref T) (wipe σ vs) H' fun σ2 H2 => wipe σ2 vs = wipe σ vs ∧ tt σ2 H2 fun b H3 => if b = true then te σ2 H3 S else False)
    (last : ∀ D H', H D = none → Ex H H' → H' D = some (.lst ((List.range xs.length).map v)) → Q (.ref D) H')
    (monoG : ∀ x σ1 H1 (N N' : St → Hp → Prop), (∀ σ2 H2, N σ2 H2 → N' σ2 H2) → g x σ1 H1 N → g x σ1 H1 N')
    (monoT : ∀ σ1 H1 (N N' : Bool → Hp → Prop), (∀ k H2, N k H2 → N' k H2) → tt σ1 H1 N → tt σ1 H1 N') : tLcZ K a b g tt te vs σ H Q := by
  intro D hD
  let Pv : Nat → Hp → Prop := fun i H' => Ex H H' ∧ H' D = some (.lst ((List.range i).map v))
  refine ⟨fun i m H' => m = xs.length - i ∧ i ≤ xs.length ∧ Pv i H', ⟨xs.length, rfl, Nat.zero_le _, Evl.Ex.new hD, upd_same⟩, ?_⟩
  rintro i m H' ⟨rfl, hi, e1, e2⟩
  have qx := Evl.ex_t e1 hx
  have qy := Evl.ex_t e1 hy
  by_cases hlt : i < xs.length
  · have h1 : xs[i]? = some xs[i] := List.getElem?_eq_getElem hlt
    have hlt2 : i < ys.length := by omega
    have h2 : ys[i]? = some ys[i] := List.getElem?_eq_getElem hlt2
    refine .inr ⟨⟨xs, ys, _, _, qx, qy, h1, h2⟩, Pv (i + 1), fun G p => ⟨xs.length - (i + 1), by omega, rfl, hlt, p⟩, fun u G y => ?_⟩
    obtain ⟨T, x', y', rfl, hT, rfl, f1, f2⟩ := y
    have eT : Ex H (upd H' T (.tup [x', y'])) := e1.trans (Evl.Ex.new hT)
    have hS : SqT K (upd H' T (.tup [x', y'])) T [x', y'] := SqT.of upd_same
    refine monoG _ _ _ _ _ ?_ (step i x' y' T _ (f1 xs qx) (f2 ys qy) eT hS (fun y H4 => ∃ acc, H4 D = some (.lst acc) ∧ acc.length < sizeLine ∧ Pv (i + 1) (upd H4 D (.lst (acc ++ [y])))) ?_)
    · rintro σ2 H2 ⟨w, k⟩
      refine ⟨w, monoT _ _ _ _ ?_ k⟩
      intro k H3 q
      cases k with
      | true => exact q
      | false => exact False.elim q
    · intro H3 e3
      have hD3 : H3 D = some (.lst ((List.range i).map v)) := e3 _ _ (Evl.Ex.new hT _ _ e2)
      refine ⟨_, hD3, ?_, Evl.Ex.mut (eT.trans e3) hD, ?_⟩
      · rw [List.length_map, List.length_range]
        exact Nat.lt_of_lt_of_le (Nat.lt_of_lt_of_le hlt hz) (by decide)
      · show upd H3 D _ D = some (.lst ((List.range (i + 1)).map v))
        rw [upd_same, List.range_succ, List.map_append]
        rfl
  · have e : i = xs.length := by omega
    subst e
    exact .inl ⟨⟨xs, ys, qx, qy, .inl (Nat.le_refl _)⟩, last D H' hD e1 e2⟩
theorem g_allL {bs : List Bool} (q : H a = some (.lst (bs.map V.bl))) (h : Q (.bl (bs.all id)) H) : rAll K [.ref a] H Q := ⟨a, bs, rfl, SqL.of q, h⟩
end
/-! ### t.index(x), whole numbers -/
def rTupIx (K : PySem.W.Frag) : V → List V → Hp → VK → Prop := fun x xs H Q => ∃ (p : Addr) (ys : List Int) (z : Int) (j : Nat), x = .ref p ∧ xs = [.int z] ∧ SqT K H p (ys.map V.int) ∧ ys[j]? = some z ∧ (∀ m, m < j → ys[m]? ≠ some z) ∧ Q (.int (j : Nat)) H
theorem flat_ints (ys : List Int) : (ys.map V.int).all flatV = true := by
  rw [List.all_map]
  exact List.all_eq_true.mpr fun _ _ => rfl
theorem mt_tupIx {X : Cx} : MtR X "tuple.index" (rTupIx X.K) := by
  intro pins s σ H x xs v us Q I rx rs h
  obtain ⟨p, ys, z, j, rfl, rfl, hq, hy, hno, q⟩ := h
  cases rx
  obtain ⟨u, rfl, t, rfl⟩ := vals1 rs
  obtain ⟨its, r, pl, hz⟩ := I.tuple hq
  obtain ⟨⟨cls, dd, dt, sl⟩, ho, hc, n, hd⟩ := pl
  simp only at hc hd
  subst hc
  subst hd
  have hl : its.toArray.size = ys.length := by rw [List.size_toArray, ← r.length, List.length_map]
  have hj : j < its.toArray.size := by rw [hl]; exact (List.getElem?_eq_some_iff.mp hy).1
  have at' : ∀ (m : Nat) (hm : m < its.toArray.size), ∃ y t', ys[m]? = some y ∧ its.toArray[m] = Value.int y t' := fun m hm => by
    have hm' : m < ys.length := by rw [← hl]; exact hm
    obtain ⟨w, hw, t', hw'⟩ := r.get (i := m) (x := .int ys[m]) (by simp [hm'])
    refine ⟨ys[m], t', List.getElem?_eq_getElem hm', ?_⟩
    have e := (List.getElem?_eq_some_iff.mp hw).2
    rw [← hw', ← e]
    simp
  refine call_meets PySem.F.slot_tuple_index ⟨_, ho, rfl⟩ PySem.F.entry_tuple_index (PySem.F.args_tuple_index_2 _ _) (TI.tuple_indexAt p its.toArray n dd sl (.int z t) (eqU (.int z)) j hj ?_ ?_)
    ⟨ho, fun w hw => mem_eqAt (x := .int z) ⟨t, rfl⟩ rfl r (flat_ints ys) w (by simpa using hw), ⟨.int (j : Nat), H, I.tok _, ⟨_, rfl⟩, q⟩⟩
  · obtain ⟨y, t', h1, h2⟩ := at' j hj
    rw [hy] at h1
    cases h1
    rw [h2]
    show (z == z) = true
    simp
  · intro m hm hmj
    obtain ⟨y, t', h1, h2⟩ := at' m hm
    rw [h2]
    show (y == z) = false
    refine beq_eq_false_iff_ne.mpr fun e => hno m hmj ?_
    rw [h1, e]
/-! a tuple whose object is known: it has no dict of its own -/
def TupD (H : Hp) (a : Addr) (xs : List V) : Prop := ∃ o : Obj, o.dict = none ∧ H a = some (.frz o (.tup xs))
theorem TupD.sq {K : PySem.W.Frag} {H : Hp} {a : Addr} {xs : List V} (h : TupD H a xs) : SqT K H a xs := by
  obtain ⟨o, _, h⟩ := h
  exact .inl (.inr ⟨o, h⟩)
theorem TupD.ex {H H' : Hp} {a : Addr} {xs : List V} (e : Ex H H') (h : TupD H a xs) : TupD H' a xs := by
  obtain ⟨o, n, h⟩ := h
  exact ⟨o, n, e _ _ h⟩
def r_tupleF (K : PySem.W.Frag) : List V → Hp → VK → Prop := fun xs H Q => ∃ p ys, xs = [.ref p] ∧ SqL K H p ys ∧ ∀ (l : Addr) (o : Obj), H l = none → o.dict = none → Q (.ref l) (upd H l (.frz o (.tup ys)))
theorem call_tupleF {X : Cx} : CallR X (.type "tuple") (r_tupleF X.K) := by
  intro pins s σ H xs us Q I r h
  obtain ⟨p, ys, rfl, hq, q⟩ := h
  obtain ⟨u, rfl, rx⟩ := vals1 r
  cases rx
  obtain ⟨its, r', pl, hz⟩ := I.list hq
  have hlen := r'.length
  refine call_tuple_list pl.isList (fun h' kp => ?_) (by simp only [List.size_toArray] <;> omega)
  have I1 : Inv X pins σ H { s with heap := h' } := I.kept (t' := s.toks) kp
  have I2 : Inv X pins σ (upd H h'.objs.size (.frz { cls := .type "tuple", data := .seq its.toArray } (.tup ys))) { s with heap := h'.push { cls := .type "tuple", data := .seq its.toArray } } :=
    I1.laid (t' := s.toks) (fun b o e => Heap.get?_push_of_some _ e) (Nat.le_refl _) (show ObjOk X.prog X.w _ _ _ (.frz _ (.tup ys)) from ⟨Heap.get?_push_size _ rfl, hz, its, r', IsTup.new _ _⟩)
  exact ⟨.ref h'.objs.size, _, I2, rfl, q _ _ (I1.hok.fresh (Nat.le_refl _)) rfl⟩
theorem g_tupleF {K : PySem.W.Frag} {H : Hp} {Q : VK} {a : Addr} {xs : List V} (q : SqL K H a xs) (h : ∀ p H', H p = none → Ex H H' → TupD H' p xs → Q (.ref p) H') : r_tupleF K [.ref a] H Q :=
  ⟨a, xs, rfl, q, fun p o hp ho => h p _ hp (Evl.Ex.new hp) ⟨o, ho, upd_same⟩⟩
def tBMT (r : V → List V → Hp → VK → Prop) (to : TE) (t : TA) : TE := fun σ H Q => to σ H fun x H1 => (∃ a xs, x = .ref a ∧ TupD H1 a xs) ∧ t σ H1 fun xs H2 => r x xs H2 Q
theorem pe_bmT {X : Cx} {o e : Expr} {es : List Expr} {to : TE} {t : TA} {name : Str} {apos cpos : Pos} {id : String} {r : V → List V → Hp → VK → Prop} (pa : PlainAttrs "tuple") (slot : Slot "tuple" name id) (hty : typeOf (.builtin id) = pure (.type "method_descriptor")) (hm : MtR X id r) (ho : PE X o to) (ha : PA X (e :: es) t)
    (hbase : attributeBase o name X.env (eval o X.env) = eval o X.env := by rfl)
    (hfew : ((backTo cpos (starEach (e :: es) X.env)).all (fun x => !x.1) && (backToKw cpos (keywordEach [] X.env)).all (fun x => x.1.isSome)
      && decide ((e :: es).length + ([] : List Keyword).length + (if ([] : List Keyword).isEmpty then 0 else 1) < 30)) = true := by rfl)
    (hline : (apos.endLine == cpos.line) = true := by rfl) (hs : starEach (e :: es) X.env = (false, eval e X.env) :: starEach es X.env := by rfl) (hplain : (backTo cpos (starEach es X.env)).any (·.1) = false := by rfl) :
    PE X (.Call (.Attribute o name apos) (e :: es) [] cpos) (tBMT r to t) := by
  refine ⟨fun pins s σ H Q I h => ?_⟩
  refine wpAny_Call_method_late hbase hfew hline rfl (thn (ho.run pins s σ H _ I h) fun v s1 ⟨x, H1, I1, r1, ⟨a, xs, ex, ob, od, hx⟩, q1⟩ => ?_)
  subst ex
  obtain rfl : v = Value.ref a := r1
  obtain ⟨g1, _, its, _, g2⟩ : s1.heap.get? a = some ob ∧ xs.length ≤ sizeLine ∧ ∃ its : List Value, Vals xs its ∧ IsTup s1.heap a its.toArray := I1.hok a _ hx
  refine ⟨"tuple", id, pa, slot, hty, g2.typeIs, fun b e => ?_, ?_⟩
  · cases e
    exact ⟨ob, g1, od⟩
  have hA := ha.run cpos pins s1 σ H1 _ I1 q1
  rw [hs] at hA ⊢
  refine Calls.callWith_builtin (by show (false || (backTo cpos (starEach es X.env)).any (·.1)) = false; rw [hplain] <;> rfl) (Calls.evalArgs_plain ?_)
  exact thn hA fun us s2 ⟨vs, H2, I2, r2, q2⟩ => hm pins s2 σ H2 (.ref a) vs _ us Q I2 rfl r2 q2
theorem g_bmT {σ : St} {H : Hp} {Q : VK} {i : Nat} {a : Addr} {xs : List V} {t : TA} {rr : V → List V → Hp → VK → Prop} (e : σ[i]? = some (some (.ref a))) (q : TupD H a xs) (h : t σ H fun ys H2 => rr (.ref a) ys H2 Q) : tBMT rr (tVar i) t σ H Q :=
  ⟨_, e, ⟨a, xs, rfl, q⟩, h⟩
/-! ### keys of a table of the top -/
def rInKD (K : PySem.W.Frag) (w : World) : R2 := fun x y H Q => ∃ (d : Addr) (z : Str) (r : Option Value), x = .str z ∧ y = .ref d ∧ (∃ es n, KDict K w d es n) ∧ PySem.W.nsIn K d z = some r ∧ Q (.bl r.isSome) H
theorem op_inKD {X : Cx} : OpR X (compareOp .In) (rInKD X.K X.w) := by
  intro pins s σ H x y v u Q I rx ry h
  obtain ⟨d, z, r, e1, e2, ⟨es, n, D⟩, e3, q⟩ := h
  exact op_in_kd D pins s σ H x y v u Q I rx ry ⟨z, r, e1, e2, e3, q⟩
section
variable {K : PySem.W.Frag} {w : World} {H : Hp} {Q : VK} {a : Addr} {x : Str}
theorem g_inKDy {v : V} (D : ∃ es n, KDict K w a es n) (d : KDct K w a x v) (h : Q (.bl true) H) : rInKD K w (.str x) (.ref a) H Q := by
  obtain ⟨es, n, u, e, _, e2, _⟩ := d
  exact ⟨a, x, _, rfl, rfl, D, e2, h⟩
theorem g_inKDn (D : ∃ es n, KDict K w a es n) (e : PySem.W.nsIn K a x = some none) (h : Q (.bl false) H) : rInKD K w (.str x) (.ref a) H Q := ⟨a, x, none, rfl, rfl, D, e, h⟩
theorem g_niTu {xs : List V} {v : V} (q : SqT K H a xs) (f1 : flatV v = true) (f2 : xs.all flatV = true) (k : Q (.bl (!inV v xs)) H) : rIn K true v (.ref a) H Q := ⟨a, xs, rfl, .inr q, f1, f2, k⟩
end
def nonB (a : PySem.W.Frag → Addr) (x : Str) (K : PySem.W.Frag) : Bool := He.eqO (PySem.W.nsIn K (a K) x) (some none)
/-- the object that stands at the i-th place of the tuple at a -/
def itmAt (a : PySem.W.Frag → Addr) (i : Nat) (K : PySem.W.Frag) : Addr := match K.lookup (a K) with
  | some ⟨_, _, .seq its _, _⟩ => (match its.toList[i]? with
    | some (.ref b) => b
    | _ => 0)
  | _ => 0
def top (i : Nat) : Stmt := PySem.Challenge.pw_timeheld_k02_whole_one_change.main.body.getD i (.Pass ⟨0, 0, 0, 0⟩)
abbrev s_arguments_in_gap : Stmt := top 5
theorem sc_arguments_in_gap : FnScope ["library", "rule", "sums", "gap"] ["library", "rule"] (defScope s_arguments_in_gap) := ⟨rfl, rfl, rfl, by decide +kernel, rfl, by decide +kernel, by decide +kernel⟩
abbrev s_arguments_in_fold : Stmt := top 6
theorem sc_arguments_in_fold : FnScope ["library", "rule", "sums", "fold"] ["library", "rule"] (defScope s_arguments_in_fold) := ⟨rfl, rfl, rfl, by decide +kernel, rfl, by decide +kernel, by decide +kernel⟩
abbrev s_arguments_in_fold_for_wall_sums : Stmt := top 7
theorem sc_arguments_in_fold_for_wall_sums : FnScope ["fold", "rule"] ["fold", "rule"] (defScope s_arguments_in_fold_for_wall_sums) := ⟨rfl, rfl, rfl, by decide +kernel, rfl, by decide +kernel, by decide +kernel⟩
abbrev s_arguments_in_fold_for_elapsed_sums : Stmt := top 8
theorem sc_arguments_in_fold_for_elapsed_sums : FnScope ["fold", "rule"] ["fold", "rule"] (defScope s_arguments_in_fold_for_elapsed_sums) := ⟨rfl, rfl, rfl, by decide +kernel, rfl, by decide +kernel, by decide +kernel⟩
abbrev s_holds_over_gaps : Stmt := top 10
theorem sc_holds_over_gaps : FnScope ["library", "rule", "sums", "order", "gap", "_"] ["library", "rule"] (defScope s_holds_over_gaps) := ⟨rfl, rfl, rfl, by decide +kernel, rfl, by decide +kernel, by decide +kernel⟩
abbrev s_holds_over_folds : Stmt := top 11
theorem sc_holds_over_folds : FnScope ["library", "rule", "sums", "order", "_", "fold"] ["library", "rule"] (defScope s_holds_over_folds) := ⟨rfl, rfl, rfl, by decide +kernel, rfl, by decide +kernel, by decide +kernel⟩
abbrev s_is_tuple_of : Stmt := top 18
theorem sc_is_tuple_of : FnScope ["many", "value"] ["many", "value"] (defScope s_is_tuple_of) := ⟨rfl, rfl, rfl, by decide +kernel, rfl, by decide +kernel, by decide +kernel⟩
abbrev s_is_library : Stmt := top 24
theorem sc_is_library : FnScope ["value", "sums", "order", "gap", "fold"] ["value"] (defScope s_is_library) := ⟨rfl, rfl, rfl, by decide +kernel, rfl, by decide +kernel, by decide +kernel⟩
abbrev s_check_library : Stmt := top 25
theorem sc_check_library : FnScope ["value"] ["value"] (defScope s_check_library) := ⟨rfl, rfl, rfl, by decide +kernel, rfl, by decide +kernel, by decide +kernel⟩
abbrev s_is_rule : Stmt := top 28
theorem sc_is_rule : FnScope ["value"] ["value"] (defScope s_is_rule) := ⟨rfl, rfl, rfl, by decide +kernel, rfl, by decide +kernel, by decide +kernel⟩
abbrev s_check_rule : Stmt := top 29
theorem sc_check_rule : FnScope ["value"] ["value"] (defScope s_check_rule) := ⟨rfl, rfl, rfl, by decide +kernel, rfl, by decide +kernel, by decide +kernel⟩
abbrev s_check_kind : Stmt := top 32
theorem sc_check_kind : FnScope ["value"] ["value"] (defScope s_check_kind) := ⟨rfl, rfl, rfl, by decide +kernel, rfl, by decide +kernel, by decide +kernel⟩
abbrev s_holds : Stmt := top 33
theorem sc_holds : FnScope ["library", "kind", "rule"] ["library", "kind", "rule"] (defScope s_holds) := ⟨rfl, rfl, rfl, by decide +kernel, rfl, by decide +kernel, by decide +kernel⟩
abbrev s_counterexample : Stmt := top 34
theorem sc_counterexample : FnScope ["library", "kind", "rule"] ["library", "kind", "rule"] (defScope s_counterexample) := ⟨rfl, rfl, rfl, by decide +kernel, rfl, by decide +kernel, by decide +kernel⟩
abbrev s_law_taken : Stmt := top 36
theorem sc_law_taken : FnScope ["row", "many", "found", "cell"] ["row", "many"] (defScope s_law_taken) := ⟨rfl, rfl, rfl, by decide +kernel, rfl, by decide +kernel, by decide +kernel⟩
abbrev s_law_pick : Stmt := top 37
theorem sc_law_pick : FnScope ["row", "kinds"] ["row", "kinds"] (defScope s_law_pick) := ⟨rfl, rfl, rfl, by decide +kernel, rfl, by decide +kernel, by decide +kernel⟩
abbrev s_law_alike : Stmt := top 38
theorem sc_law_alike : FnScope ["found", "due", "k"] ["found", "due"] (defScope s_law_alike) := ⟨rfl, rfl, rfl, by decide +kernel, rfl, by decide +kernel, by decide +kernel⟩
abbrev s_law_library : Stmt := top 39
theorem sc_law_library : FnScope ["row", "first", "second"] ["row"] (defScope s_law_library) := ⟨rfl, rfl, rfl, by decide +kernel, rfl, by decide +kernel, by decide +kernel⟩
abbrev s_law_offset : Stmt := top 40
theorem sc_law_offset : FnScope ["zone", "instant", "some", "at", "after"] ["zone", "instant"] (defScope s_law_offset) := ⟨rfl, rfl, rfl, by decide +kernel, rfl, by decide +kernel, by decide +kernel⟩
abbrev s_law_instants : Stmt := top 41
theorem sc_law_instants : FnScope ["zone", "reading", "each"] ["zone", "reading"] (defScope s_law_instants) := ⟨rfl, rfl, rfl, by decide +kernel, rfl, by decide +kernel, by decide +kernel⟩
abbrev s_law_before : Stmt := top 42
theorem sc_law_before : FnScope ["zone", "reading", "last", "each"] ["zone", "reading"] (defScope s_law_before) := ⟨rfl, rfl, rfl, by decide +kernel, rfl, by decide +kernel, by decide +kernel⟩
abbrev s_law_times : Stmt := top 43
theorem sc_law_times : FnScope ["way", "zone", "reading", "many"] ["way", "zone", "reading"] (defScope s_law_times) := ⟨rfl, rfl, rfl, by decide +kernel, rfl, by decide +kernel, by decide +kernel⟩
abbrev s_law_instant : Stmt := top 44
theorem sc_law_instant : FnScope ["way", "zone", "time", "some"] ["way", "zone", "time"] (defScope s_law_instant) := ⟨rfl, rfl, rfl, by decide +kernel, rfl, by decide +kernel, by decide +kernel⟩
abbrev s_law_at : Stmt := top 45
theorem sc_law_at : FnScope ["way", "zone", "instant", "reading", "some"] ["way", "zone", "instant"] (defScope s_law_at) := ⟨rfl, rfl, rfl, by decide +kernel, rfl, by decide +kernel, by decide +kernel⟩
abbrev s_law_read : Stmt := top 46
theorem sc_law_read : FnScope ["way", "zone", "reading", "some", "bad"] ["way", "zone", "reading"] (defScope s_law_read) := ⟨rfl, rfl, rfl, by decide +kernel, rfl, by decide +kernel, by decide +kernel⟩
abbrev s_law_add : Stmt := top 47
theorem sc_law_add : FnScope ["way", "zone", "time", "hours"] ["way", "zone", "time", "hours"] (defScope s_law_add) := ⟨rfl, rfl, rfl, by decide +kernel, rfl, by decide +kernel, by decide +kernel⟩
abbrev s_law_less : Stmt := top 48
theorem sc_law_less : FnScope ["way", "zone", "one", "other"] ["way", "zone", "one", "other"] (defScope s_law_less) := ⟨rfl, rfl, rfl, by decide +kernel, rfl, by decide +kernel, by decide +kernel⟩
abbrev s_law_order : Stmt := top 49
theorem sc_law_order : FnScope ["way", "zone", "one", "other", "a", "b", "time"] ["way", "zone", "one", "other"] (defScope s_law_order) := ⟨rfl, rfl, rfl, by decide +kernel, rfl, by decide +kernel, by decide +kernel⟩
abbrev s_law_rules : Stmt := top 50
theorem sc_law_rules : FnScope ["some"] [] (defScope s_law_rules) := ⟨rfl, rfl, rfl, by decide +kernel, rfl, by decide +kernel, by decide +kernel⟩
abbrev s_law_shape : Stmt := top 51
theorem sc_law_shape : FnScope ["rule"] ["rule"] (defScope s_law_shape) := ⟨rfl, rfl, rfl, by decide +kernel, rfl, by decide +kernel, by decide +kernel⟩
abbrev s_law_one : Stmt := top 52
theorem sc_law_one : FnScope ["way", "zone", "rule", "x", "found"] ["way", "zone", "rule", "x"] (defScope s_law_one) := ⟨rfl, rfl, rfl, by decide +kernel, rfl, by decide +kernel, by decide +kernel⟩
abbrev s_law_moved : Stmt := top 53
theorem sc_law_moved : FnScope ["way", "zone", "rule", "t", "d", "e", "after", "both"] ["way", "zone", "rule", "t", "d", "e"] (defScope s_law_moved) := ⟨rfl, rfl, rfl, by decide +kernel, rfl, by decide +kernel, by decide +kernel⟩
abbrev s_law_two : Stmt := top 54
theorem sc_law_two : FnScope ["way", "zone", "rule", "t", "u", "d", "order", "alike", "want"] ["way", "zone", "rule", "t", "u", "d"] (defScope s_law_two) := ⟨rfl, rfl, rfl, by decide +kernel, rfl, by decide +kernel, by decide +kernel⟩
abbrev s_law_fits : Stmt := top 55
theorem sc_law_fits : FnScope ["way", "zone", "rule", "some", "words"] ["way", "zone", "rule", "some"] (defScope s_law_fits) := ⟨rfl, rfl, rfl, by decide +kernel, rfl, by decide +kernel, by decide +kernel⟩
abbrev s_law : Stmt := top 56
theorem sc_law : FnScope ["script", "row", "way", "rule", "kind", "zone", "times", "words", "good", "spot", "t", "d", "u", "e", "x"] ["script"] (defScope s_law) := ⟨rfl, rfl, rfl, by decide +kernel, rfl, by decide +kernel, by decide +kernel⟩
structure Txt (w : World) (K : PySem.W.Frag) (mg : Str → Option Value) where
  f_arguments_in_gap : FA K mg "arguments_in_gap" s_arguments_in_gap ["library", "rule"]
  f_arguments_in_fold : FA K mg "arguments_in_fold" s_arguments_in_fold ["library", "rule"]
  f_arguments_in_fold_for_wall_sums : FA K mg "_arguments_in_fold_for_wall_sums" s_arguments_in_fold_for_wall_sums ["fold", "rule"]
  f_arguments_in_fold_for_elapsed_sums : FA K mg "_arguments_in_fold_for_elapsed_sums" s_arguments_in_fold_for_elapsed_sums ["fold", "rule"]
  f_holds_over_gaps : FA K mg "holds_over_gaps" s_holds_over_gaps ["library", "rule"]
  f_holds_over_folds : FA K mg "holds_over_folds" s_holds_over_folds ["library", "rule"]
  f_is_tuple_of : FA K mg "is_tuple_of" s_is_tuple_of ["many", "value"]
  f_is_library : FA K mg "is_library" s_is_library ["value"]
  f_check_library : FA K mg "check_library" s_check_library ["value"]
  f_is_rule : FA K mg "is_rule" s_is_rule ["value"]
  f_check_rule : FA K mg "check_rule" s_check_rule ["value"]
  f_check_kind : FA K mg "check_kind" s_check_kind ["value"]
  f_holds : FA K mg "holds" s_holds ["library", "kind", "rule"]
  f_counterexample : FA K mg "counterexample" s_counterexample ["library", "kind", "rule"]
  f_law_taken : FA K mg "_law_taken" s_law_taken ["row", "many"]
  f_law_pick : FA K mg "_law_pick" s_law_pick ["row", "kinds"]
  f_law_alike : FA K mg "_law_alike" s_law_alike ["found", "due"]
  f_law_library : FA K mg "_law_library" s_law_library ["row"]
  f_law_offset : FA K mg "_law_offset" s_law_offset ["zone", "instant"]
  f_law_instants : FA K mg "_law_instants" s_law_instants ["zone", "reading"]
  f_law_before : FA K mg "_law_before" s_law_before ["zone", "reading"]
  f_law_times : FA K mg "_law_times" s_law_times ["way", "zone", "reading"]
  f_law_instant : FA K mg "_law_instant" s_law_instant ["way", "zone", "time"]
  f_law_at : FA K mg "_law_at" s_law_at ["way", "zone", "instant"]
  f_law_read : FA K mg "_law_read" s_law_read ["way", "zone", "reading"]
  f_law_add : FA K mg "_law_add" s_law_add ["way", "zone", "time", "hours"]
  f_law_less : FA K mg "_law_less" s_law_less ["way", "zone", "one", "other"]
  f_law_order : FA K mg "_law_order" s_law_order ["way", "zone", "one", "other"]
  f_law_rules : FA K mg "_law_rules" s_law_rules []
  f_law_shape : FA K mg "_law_shape" s_law_shape ["rule"]
  f_law_one : FA K mg "_law_one" s_law_one ["way", "zone", "rule", "x"]
  f_law_moved : FA K mg "_law_moved" s_law_moved ["way", "zone", "rule", "t", "d", "e"]
  f_law_two : FA K mg "_law_two" s_law_two ["way", "zone", "rule", "t", "u", "d"]
  f_law_fits : FA K mg "_law_fits" s_law_fits ["way", "zone", "rule", "some"]
  f_law : FA K mg "law" s_law ["script"]
  z_isinstance : mg "isinstance" = none
  z_tuple : mg "tuple" = none
  z_len : mg "len" = none
  z_str : mg "str" = none
  z_int : mg "int" = none
  z_list : mg "list" = none
  z_bool : mg "bool" = none
  z_range : mg "range" = none
  z_max : mg "max" = none
  a_IN_GAP : Addr
  c_IN_GAP : mg "IN_GAP" = some (.ref a_IN_GAP)
  t_IN_GAP : ∃ es n, KDict K w a_IN_GAP es n
  b_IN_GAP_0_0 : Addr
  q_IN_GAP_0_0 : ∀ H : Hp, SqT K H b_IN_GAP_0_0 [.int 0, .int 0]
  b_IN_GAP_0 : Addr
  q_IN_GAP_0 : ∀ H : Hp, SqT K H b_IN_GAP_0 [.ref b_IN_GAP_0_0]
  k_IN_GAP_0 : KDct K w a_IN_GAP "to universal and back" (.ref b_IN_GAP_0)
  b_IN_GAP_1 : Addr
  q_IN_GAP_1 : ∀ H : Hp, SqT K H b_IN_GAP_1 [.int 0]
  k_IN_GAP_1 : KDct K w a_IN_GAP "every reading" (.ref b_IN_GAP_1)
  b_IN_GAP_2 : Addr
  q_IN_GAP_2 : ∀ H : Hp, SqT K H b_IN_GAP_2 [.int 0]
  k_IN_GAP_2 : KDct K w a_IN_GAP "some reading" (.ref b_IN_GAP_2)
  b_IN_GAP_3_0 : Addr
  q_IN_GAP_3_0 : ∀ H : Hp, SqT K H b_IN_GAP_3_0 [.int (-1), .int 0]
  b_IN_GAP_3 : Addr
  q_IN_GAP_3 : ∀ H : Hp, SqT K H b_IN_GAP_3 [.ref b_IN_GAP_3_0, .int 1, .int 2]
  k_IN_GAP_3 : KDct K w a_IN_GAP "sum of durations" (.ref b_IN_GAP_3)
  b_IN_GAP_4_0 : Addr
  q_IN_GAP_4_0 : ∀ H : Hp, SqT K H b_IN_GAP_4_0 [.int (-1), .int 0]
  b_IN_GAP_4 : Addr
  q_IN_GAP_4 : ∀ H : Hp, SqT K H b_IN_GAP_4 [.ref b_IN_GAP_4_0, .int 3]
  k_IN_GAP_4 : KDct K w a_IN_GAP "elapsed time" (.ref b_IN_GAP_4)
  b_IN_GAP_5_0 : Addr
  q_IN_GAP_5_0 : ∀ H : Hp, SqT K H b_IN_GAP_5_0 [.int (-1), .int 0]
  b_IN_GAP_5 : Addr
  q_IN_GAP_5 : ∀ H : Hp, SqT K H b_IN_GAP_5 [.ref b_IN_GAP_5_0, .int 1]
  k_IN_GAP_5 : KDct K w a_IN_GAP "sums told" (.ref b_IN_GAP_5)
  b_IN_GAP_6_0 : Addr
  q_IN_GAP_6_0 : ∀ H : Hp, SqT K H b_IN_GAP_6_0 [.int (-1), .int 0]
  b_IN_GAP_6_1 : Addr
  q_IN_GAP_6_1 : ∀ H : Hp, SqT K H b_IN_GAP_6_1 [.int 0, .int 0]
  b_IN_GAP_6 : Addr
  q_IN_GAP_6 : ∀ H : Hp, SqT K H b_IN_GAP_6 [.ref b_IN_GAP_6_0, .ref b_IN_GAP_6_1]
  k_IN_GAP_6 : KDct K w a_IN_GAP "difference recovers" (.ref b_IN_GAP_6)
  b_IN_GAP_7_0 : Addr
  q_IN_GAP_7_0 : ∀ H : Hp, SqT K H b_IN_GAP_7_0 [.int 0, .int 0]
  b_IN_GAP_7_1 : Addr
  q_IN_GAP_7_1 : ∀ H : Hp, SqT K H b_IN_GAP_7_1 [.int 2, .int 0]
  b_IN_GAP_7 : Addr
  q_IN_GAP_7 : ∀ H : Hp, SqT K H b_IN_GAP_7 [.ref b_IN_GAP_7_0, .ref b_IN_GAP_7_1]
  k_IN_GAP_7 : KDct K w a_IN_GAP "order by difference" (.ref b_IN_GAP_7)
  b_IN_GAP_8_0 : Addr
  q_IN_GAP_8_0 : ∀ H : Hp, SqT K H b_IN_GAP_8_0 [.int 0, .int 0]
  b_IN_GAP_8_1 : Addr
  q_IN_GAP_8_1 : ∀ H : Hp, SqT K H b_IN_GAP_8_1 [.int 2, .int 0]
  b_IN_GAP_8 : Addr
  q_IN_GAP_8 : ∀ H : Hp, SqT K H b_IN_GAP_8 [.ref b_IN_GAP_8_0, .ref b_IN_GAP_8_1]
  k_IN_GAP_8 : KDct K w a_IN_GAP "one instant means equal" (.ref b_IN_GAP_8)
  b_IN_GAP_9_0 : Addr
  q_IN_GAP_9_0 : ∀ H : Hp, SqT K H b_IN_GAP_9_0 [.int 0, .int 0]
  b_IN_GAP_9_1 : Addr
  q_IN_GAP_9_1 : ∀ H : Hp, SqT K H b_IN_GAP_9_1 [.int 2, .int 0]
  b_IN_GAP_9 : Addr
  q_IN_GAP_9 : ∀ H : Hp, SqT K H b_IN_GAP_9 [.ref b_IN_GAP_9_0, .ref b_IN_GAP_9_1]
  k_IN_GAP_9 : KDct K w a_IN_GAP "one instant, one time" (.ref b_IN_GAP_9)
  b_IN_GAP_10_0 : Addr
  q_IN_GAP_10_0 : ∀ H : Hp, SqT K H b_IN_GAP_10_0 [.int 0, .int 0]
  b_IN_GAP_10_1 : Addr
  q_IN_GAP_10_1 : ∀ H : Hp, SqT K H b_IN_GAP_10_1 [.int 2, .int 0]
  b_IN_GAP_10 : Addr
  q_IN_GAP_10 : ∀ H : Hp, SqT K H b_IN_GAP_10 [.ref b_IN_GAP_10_0, .ref b_IN_GAP_10_1]
  k_IN_GAP_10 : KDct K w a_IN_GAP "order of instants" (.ref b_IN_GAP_10)
  n_IN_GAP_0 : PySem.W.nsIn K a_IN_GAP "from universal and back" = some none
  n_IN_GAP_1 : PySem.W.nsIn K a_IN_GAP "there and back" = some none
  n_IN_GAP_2 : PySem.W.nsIn K a_IN_GAP "same clock" = some none
  n_IN_GAP_3 : PySem.W.nsIn K a_IN_GAP "later" = some none
  n_IN_GAP_4 : PySem.W.nsIn K a_IN_GAP "equal means one instant" = some none
  n_IN_GAP_5 : PySem.W.nsIn K a_IN_GAP "order kept" = some none
  n_IN_GAP_6 : PySem.W.nsIn K a_IN_GAP "equal sums" = some none
  a_IN_FOLD : Addr
  c_IN_FOLD : mg "IN_FOLD" = some (.ref a_IN_FOLD)
  t_IN_FOLD : ∃ es n, KDict K w a_IN_FOLD es n
  b_IN_FOLD_0 : Addr
  q_IN_FOLD_0 : ∀ H : Hp, SqT K H b_IN_FOLD_0 [.int (-1)]
  k_IN_FOLD_0 : KDct K w a_IN_FOLD "every reading" (.ref b_IN_FOLD_0)
  b_IN_FOLD_1 : Addr
  q_IN_FOLD_1 : ∀ H : Hp, SqT K H b_IN_FOLD_1 [.int (-1)]
  k_IN_FOLD_1 : KDct K w a_IN_FOLD "some reading" (.ref b_IN_FOLD_1)
  b_IN_FOLD_2_0 : Addr
  q_IN_FOLD_2_0 : ∀ H : Hp, SqT K H b_IN_FOLD_2_0 [.int (-3), .int 0]
  b_IN_FOLD_2 : Addr
  q_IN_FOLD_2 : ∀ H : Hp, SqT K H b_IN_FOLD_2 [.ref b_IN_FOLD_2_0, .int 2]
  k_IN_FOLD_2 : KDct K w a_IN_FOLD "sums told" (.ref b_IN_FOLD_2)
  b_IN_FOLD_3_0 : Addr
  q_IN_FOLD_3_0 : ∀ H : Hp, SqT K H b_IN_FOLD_3_0 [.int (-3), .int 0]
  b_IN_FOLD_3_1 : Addr
  q_IN_FOLD_3_1 : ∀ H : Hp, SqT K H b_IN_FOLD_3_1 [.int (-1), .int 1]
  b_IN_FOLD_3 : Addr
  q_IN_FOLD_3 : ∀ H : Hp, SqT K H b_IN_FOLD_3 [.ref b_IN_FOLD_3_0, .ref b_IN_FOLD_3_1]
  k_IN_FOLD_3 : KDct K w a_IN_FOLD "difference recovers" (.ref b_IN_FOLD_3)
  b_IN_FOLD_4_0 : Addr
  q_IN_FOLD_4_0 : ∀ H : Hp, SqT K H b_IN_FOLD_4_0 [.int (-1), .int 0]
  b_IN_FOLD_4_1 : Addr
  q_IN_FOLD_4_1 : ∀ H : Hp, SqT K H b_IN_FOLD_4_1 [.int (-1), .int 1]
  b_IN_FOLD_4 : Addr
  q_IN_FOLD_4 : ∀ H : Hp, SqT K H b_IN_FOLD_4 [.ref b_IN_FOLD_4_0, .ref b_IN_FOLD_4_1]
  k_IN_FOLD_4 : KDct K w a_IN_FOLD "order by difference" (.ref b_IN_FOLD_4)
  b_IN_FOLD_5_0 : Addr
  q_IN_FOLD_5_0 : ∀ H : Hp, SqT K H b_IN_FOLD_5_0 [.int (-1), .int 0]
  b_IN_FOLD_5_1 : Addr
  q_IN_FOLD_5_1 : ∀ H : Hp, SqT K H b_IN_FOLD_5_1 [.int (-1), .int 1]
  b_IN_FOLD_5 : Addr
  q_IN_FOLD_5 : ∀ H : Hp, SqT K H b_IN_FOLD_5 [.ref b_IN_FOLD_5_0, .ref b_IN_FOLD_5_1]
  k_IN_FOLD_5 : KDct K w a_IN_FOLD "equal means one instant" (.ref b_IN_FOLD_5)
  b_IN_FOLD_6_0 : Addr
  q_IN_FOLD_6_0 : ∀ H : Hp, SqT K H b_IN_FOLD_6_0 [.int (-1), .int 0]
  b_IN_FOLD_6_1 : Addr
  q_IN_FOLD_6_1 : ∀ H : Hp, SqT K H b_IN_FOLD_6_1 [.int (-1), .int 1]
  b_IN_FOLD_6 : Addr
  q_IN_FOLD_6 : ∀ H : Hp, SqT K H b_IN_FOLD_6 [.ref b_IN_FOLD_6_0, .ref b_IN_FOLD_6_1]
  k_IN_FOLD_6 : KDct K w a_IN_FOLD "order of instants" (.ref b_IN_FOLD_6)
  n_IN_FOLD_0 : PySem.W.nsIn K a_IN_FOLD "from universal and back" = some none
  n_IN_FOLD_1 : PySem.W.nsIn K a_IN_FOLD "to universal and back" = some none
  n_IN_FOLD_2 : PySem.W.nsIn K a_IN_FOLD "there and back" = some none
  n_IN_FOLD_3 : PySem.W.nsIn K a_IN_FOLD "sum of durations" = some none
  n_IN_FOLD_4 : PySem.W.nsIn K a_IN_FOLD "elapsed time" = some none
  n_IN_FOLD_5 : PySem.W.nsIn K a_IN_FOLD "same clock" = some none
  n_IN_FOLD_6 : PySem.W.nsIn K a_IN_FOLD "later" = some none
  n_IN_FOLD_7 : PySem.W.nsIn K a_IN_FOLD "one instant means equal" = some none
  n_IN_FOLD_8 : PySem.W.nsIn K a_IN_FOLD "one instant, one time" = some none
  n_IN_FOLD_9 : PySem.W.nsIn K a_IN_FOLD "order kept" = some none
  n_IN_FOLD_10 : PySem.W.nsIn K a_IN_FOLD "equal sums" = some none
  a_SUMS : Addr
  c_SUMS : mg "SUMS" = some (.ref a_SUMS)
  q_SUMS : ∀ H : Hp, SqT K H a_SUMS [.str "elapsed", .str "wall"]
  a_ORDERS : Addr
  c_ORDERS : mg "ORDERS" = some (.ref a_ORDERS)
  q_ORDERS : ∀ H : Hp, SqT K H a_ORDERS [.str "elapsed", .str "wall"]
  a_GAPS : Addr
  c_GAPS : mg "GAPS" = some (.ref a_GAPS)
  q_GAPS : ∀ H : Hp, SqT K H a_GAPS [.str "keep", .str "refuse", .str "shift"]
  a_FOLDS : Addr
  c_FOLDS : mg "FOLDS" = some (.ref a_FOLDS)
  q_FOLDS : ∀ H : Hp, SqT K H a_FOLDS [.str "both", .str "first", .str "refuse", .str "second"]
  a_SHAPES : Addr
  c_SHAPES : mg "SHAPES" = some (.ref a_SHAPES)
  t_SHAPES : ∃ es n, KDict K w a_SHAPES es n
  b_SHAPES_0 : Addr
  q_SHAPES_0 : ∀ H : Hp, SqT K H b_SHAPES_0 [.str "instant"]
  k_SHAPES_0 : KDct K w a_SHAPES "from universal and back" (.ref b_SHAPES_0)
  b_SHAPES_1 : Addr
  q_SHAPES_1 : ∀ H : Hp, SqT K H b_SHAPES_1 [.str "time"]
  k_SHAPES_1 : KDct K w a_SHAPES "to universal and back" (.ref b_SHAPES_1)
  b_SHAPES_2 : Addr
  q_SHAPES_2 : ∀ H : Hp, SqT K H b_SHAPES_2 [.str "reading"]
  k_SHAPES_2 : KDct K w a_SHAPES "every reading" (.ref b_SHAPES_2)
  b_SHAPES_3 : Addr
  q_SHAPES_3 : ∀ H : Hp, SqT K H b_SHAPES_3 [.str "reading"]
  k_SHAPES_3 : KDct K w a_SHAPES "some reading" (.ref b_SHAPES_3)
  b_SHAPES_4 : Addr
  q_SHAPES_4 : ∀ H : Hp, SqT K H b_SHAPES_4 [.str "time", .str "duration"]
  k_SHAPES_4 : KDct K w a_SHAPES "there and back" (.ref b_SHAPES_4)
  b_SHAPES_5 : Addr
  q_SHAPES_5 : ∀ H : Hp, SqT K H b_SHAPES_5 [.str "time", .str "duration", .str "duration"]
  k_SHAPES_5 : KDct K w a_SHAPES "sum of durations" (.ref b_SHAPES_5)
  b_SHAPES_6 : Addr
  q_SHAPES_6 : ∀ H : Hp, SqT K H b_SHAPES_6 [.str "time", .str "duration"]
  k_SHAPES_6 : KDct K w a_SHAPES "elapsed time" (.ref b_SHAPES_6)
  b_SHAPES_7 : Addr
  q_SHAPES_7 : ∀ H : Hp, SqT K H b_SHAPES_7 [.str "time"]
  k_SHAPES_7 : KDct K w a_SHAPES "same clock" (.ref b_SHAPES_7)
  b_SHAPES_8 : Addr
  q_SHAPES_8 : ∀ H : Hp, SqT K H b_SHAPES_8 [.str "time", .str "duration"]
  k_SHAPES_8 : KDct K w a_SHAPES "later" (.ref b_SHAPES_8)
  b_SHAPES_9 : Addr
  q_SHAPES_9 : ∀ H : Hp, SqT K H b_SHAPES_9 [.str "time", .str "duration"]
  k_SHAPES_9 : KDct K w a_SHAPES "sums told" (.ref b_SHAPES_9)
  b_SHAPES_10 : Addr
  q_SHAPES_10 : ∀ H : Hp, SqT K H b_SHAPES_10 [.str "time", .str "time"]
  k_SHAPES_10 : KDct K w a_SHAPES "difference recovers" (.ref b_SHAPES_10)
  b_SHAPES_11 : Addr
  q_SHAPES_11 : ∀ H : Hp, SqT K H b_SHAPES_11 [.str "time", .str "time"]
  k_SHAPES_11 : KDct K w a_SHAPES "order by difference" (.ref b_SHAPES_11)
  b_SHAPES_12 : Addr
  q_SHAPES_12 : ∀ H : Hp, SqT K H b_SHAPES_12 [.str "time", .str "time"]
  k_SHAPES_12 : KDct K w a_SHAPES "equal means one instant" (.ref b_SHAPES_12)
  b_SHAPES_13 : Addr
  q_SHAPES_13 : ∀ H : Hp, SqT K H b_SHAPES_13 [.str "time", .str "time"]
  k_SHAPES_13 : KDct K w a_SHAPES "one instant means equal" (.ref b_SHAPES_13)
  b_SHAPES_14 : Addr
  q_SHAPES_14 : ∀ H : Hp, SqT K H b_SHAPES_14 [.str "time", .str "time"]
  k_SHAPES_14 : KDct K w a_SHAPES "one instant, one time" (.ref b_SHAPES_14)
  b_SHAPES_15 : Addr
  q_SHAPES_15 : ∀ H : Hp, SqT K H b_SHAPES_15 [.str "time", .str "time"]
  k_SHAPES_15 : KDct K w a_SHAPES "order of instants" (.ref b_SHAPES_15)
  b_SHAPES_16 : Addr
  q_SHAPES_16 : ∀ H : Hp, SqT K H b_SHAPES_16 [.str "time", .str "time", .str "duration"]
  k_SHAPES_16 : KDct K w a_SHAPES "order kept" (.ref b_SHAPES_16)
  b_SHAPES_17 : Addr
  q_SHAPES_17 : ∀ H : Hp, SqT K H b_SHAPES_17 [.str "time", .str "time", .str "duration"]
  k_SHAPES_17 : KDct K w a_SHAPES "equal sums" (.ref b_SHAPES_17)
  a_KINDS : Addr
  c_KINDS : mg "KINDS" = some (.ref a_KINDS)
  q_KINDS : ∀ H : Hp, SqT K H a_KINDS [.str "fixed", .str "skips", .str "repeats", .str "both"]
  a_GAP_ZONE : Addr
  c_GAP_ZONE : mg "GAP_ZONE" = some (.ref a_GAP_ZONE)
  b_GAP_ZONE_1_0 : Addr
  q_GAP_ZONE_1_0 : ∀ H : Hp, SqT K H b_GAP_ZONE_1_0 [.int 0, .int 2]
  b_GAP_ZONE_1 : Addr
  q_GAP_ZONE_1 : ∀ H : Hp, SqT K H b_GAP_ZONE_1 [.ref b_GAP_ZONE_1_0]
  q_GAP_ZONE : ∀ H : Hp, SqT K H a_GAP_ZONE [.int 0, .ref b_GAP_ZONE_1]
  a_FOLD_ZONE : Addr
  c_FOLD_ZONE : mg "FOLD_ZONE" = some (.ref a_FOLD_ZONE)
  b_FOLD_ZONE_1_0 : Addr
  q_FOLD_ZONE_1_0 : ∀ H : Hp, SqT K H b_FOLD_ZONE_1_0 [.int 0, .int (-2)]
  b_FOLD_ZONE_1 : Addr
  q_FOLD_ZONE_1 : ∀ H : Hp, SqT K H b_FOLD_ZONE_1 [.ref b_FOLD_ZONE_1_0]
  q_FOLD_ZONE : ∀ H : Hp, SqT K H a_FOLD_ZONE [.int 0, .ref b_FOLD_ZONE_1]
local macro_rules | `(tactic| walk_at "sq") => `(tactic| first
  | assumption
  | exact SqT.of (by assumption)
  | exact SqL.of (by assumption)
  | ((refine Evl.ex_t (H := ?h0) ?e0 ?q0); (case e0 => assumption); (case q0 => walk_at "sq")))
local macro_rules | `(tactic| walk_at "eb") => `(tactic| first
  | ((with_reducible apply evV_var); exact rfl)
  | with_reducible exact evV_c
  | ((with_reducible apply evV_not) <;> walk_at "eb")
  | ((with_reducible apply evV_or) <;> walk_at "eb")
  | ((with_reducible apply evV_and) <;> walk_at "eb")
  | ((with_reducible apply evV_if) <;> walk_at "eb")
  | ((with_reducible apply evK_B) <;> walk_at "eb")
  | ((with_reducible apply evK_test) <;> walk_at "eb")
  | ((with_reducible apply evK_not) <;> walk_at "eb")
  | ((with_reducible apply evV_eqB) <;> walk_at "eb")
  | ((with_reducible apply evV_eqS) <;> walk_at "eb")
  | ((with_reducible apply evV_neS) <;> walk_at "eb"))
local macro_rules | `(tactic| walk_at "m") => `(tactic| first
  | with_reducible refine g_seq ?_
  | with_reducible refine g_asg ?_
  | ((with_reducible refine g_var (v := ?gv) ?ge ?_); (case ge => exact rfl))
  | with_reducible refine g_c ?_
  | with_reducible refine g_op ?_
  | with_reducible refine g_name ?_
  | with_reducible refine g_I0 ?_
  | with_reducible refine g_cons ?_
  | with_reducible refine g_nil ?_
  | with_reducible refine g_call ?_
  | with_reducible refine g_CB ?_
  | with_reducible refine g_test ?_
  | with_reducible refine g_B ?_
  | with_reducible refine g_bl ?_
  | with_reducible refine g_not ?_
  | with_reducible refine g_and ?_
  | with_reducible refine g_or ?_
  | with_reducible refine g_ret ?_
  | with_reducible refine g_retN ?_
  | with_reducible refine g_drop ?_
  | with_reducible refine g_next ?_
  | with_reducible refine g_brk ?_
  | with_reducible refine g_cont ?_
  | with_reducible refine g_un ?_
  | with_reducible refine g_U ?_
  | with_reducible refine g_for ?_
  | with_reducible refine g_iTup ?_
  | with_reducible refine g_iList ?_
  | with_reducible refine g_rng1 ?_
  | with_reducible refine g_rng2 ?_
  | with_reducible refine g_gcons ?_
  | with_reducible refine g_gnil ?_
  | with_reducible refine g_eqI ?_
  | with_reducible refine g_neI ?_
  | with_reducible refine g_eqS ?_
  | with_reducible refine g_neS ?_
  | with_reducible refine g_eqB ?_
  | with_reducible refine g_neB ?_
  | with_reducible refine g_lcTup ?_
  | with_reducible refine g_lcList ?_
  | with_reducible refine g_scList ?_
  | ((with_reducible refine g_ixT (xs := ?xs) (v := ?gv) ?hq ?he ?_); (case hq => walk_at "sq"); (case he => exact rfl))
  | ((with_reducible refine g_gtup (xs := ?xs) ?hq ?he ?_); (case hq => walk_at "sq"); (case he => exact rfl))
  | with_reducible refine g_yes ?_
  | with_reducible refine if_tt ?_
  | with_reducible refine if_ff ?_
  | with_reducible refine g_chain ?_
  | with_reducible refine g_pcons ?_
  | with_reducible refine g_pnil ?_
  | with_reducible refine g_dget2 ?_
  | with_reducible refine g_sub ?_
  | with_reducible refine g_isB ?_
  | with_reducible refine g_notB ?_
  | with_reducible refine g_isN ?_
  | with_reducible refine g_notN ?_
  | ((with_reducible refine g_I ?gi ?_); (case gi => (first
      | (show (0 : Int) < _; omega)
      | exact cmul_r (by omega) (by omega)
      | exact cmul_l (by omega) (by omega)
      | exact cdiv_of (by omega) (by omega)
      | exact cpow_of (by omega) (by omega) (by omega))))
  | with_reducible refine g_match ?_
  | with_reducible refine g_mstr ?_
  | ((with_reducible refine g_caseT ?e ?_); (case e => decide +kernel))
  | ((with_reducible refine g_caseF ?e ?_); (case e => decide +kernel))
  | with_reducible refine g_caseN ?_
  | with_reducible refine g_callH ?_
  | with_reducible refine if_nt ?_
  | with_reducible refine if_nf ?_
  | with_reducible refine g_asg2 ?_
  | with_reducible refine g_par3 ?_
  | with_reducible refine g_par3_ ?_
  | with_reducible refine g_int ?_
  | with_reducible refine g_intB ?_
  | with_reducible refine g_abs ?_
  | with_reducible refine g_par ?_
  | with_reducible refine g_par_ ?_
  | ((with_reducible refine if_t ?e ?_); (case e => decide +kernel))
  | ((with_reducible refine if_f ?e ?_); (case e => decide +kernel))
  | ((with_reducible refine if_t ?e ?_); (case e => exact rfl))
  | ((with_reducible refine if_f ?e ?_); (case e => exact rfl)))
local macro_rules | `(tactic| walk_at "n") => `(tactic| first
  | walk_at "m"
  | with_reducible refine g_tup ?_
  | with_reducible refine g_lst ?_
  | with_reducible refine g_orV ?_
  | with_reducible refine g_andV ?_
  | with_reducible refine g_notV ?_)
local macro_rules | `(tactic| walk_at "mm") => `(tactic| repeat walk_at "m")
local macro_rules | `(tactic| walk_at "g") => `(tactic| first | walk_at "n" | with_reducible refine g_if ?_ | with_reducible refine g_ifS ?_)
local macro_rules | `(tactic| walk_at "nn") => `(tactic| repeat walk_at "n")
local macro_rules | `(tactic| walk_at "gg") => `(tactic| repeat walk_at "g")
local macro_rules | `(tactic| walk_at "q") => `(tactic| first | walk_at "m" | with_reducible refine g_orV ?_ | with_reducible refine g_andV ?_ | with_reducible refine g_notV ?_ | with_reducible refine g_if ?_ | with_reducible refine g_ifS ?_)
local macro_rules | `(tactic| walk_at "qq") => `(tactic| repeat walk_at "q")

/-! ### the mathematics' functions -/
def offGo (t : Int) : Int → List (Int × Int) → Int
  | cur, [] => cur
  | cur, p :: r => if p.1 > t then cur else offGo t p.2 r
def off (z : Zone) (t : Int) : Int := offGo t z.1 z.2
theorem offGo_mem (t : Int) : ∀ (cs : List (Int × Int)) (cur : Int), offGo t cur cs ∈ cur :: cs.map (·.2)
  | [], cur => by simp [offGo]
  | p :: r, cur => by
    unfold offGo
    split
    · simp
    · have h := offGo_mem t r p.2
      simp only [List.map_cons, List.mem_cons] at h ⊢
      exact .inr h
def okC (before earliest : Int) (p : Int × Int) : Bool := decide (earliest ≤ p.1 ∧ p.1 ≤ 1000) && (decide (-15 ≤ p.2 ∧ p.2 ≤ 15) && decide (1 ≤ (p.2 - before).natAbs ∧ (p.2 - before).natAbs ≤ 3))
def okGo : Int → Int → List (Int × Int) → Bool
  | _, _, [] => true
  | before, earliest, p :: r => okC before earliest p && okGo p.2 (p.1 + 12) r
theorem okGo_cons (b e : Int) (p : Int × Int) (r : List (Int × Int)) : okGo b e (p :: r) = (okC b e p && okGo p.2 (p.1 + 12) r) := rfl
def okZ (z : Zone) : Bool := decide (-12 ≤ z.1 ∧ z.1 ≤ 12) && (decide (z.2.length ≤ 8) && okGo z.1 (-1000) z.2)
def kindGo : Int → Bool → Bool → List (Int × Int) → Bool × Bool
  | _, s, r, [] => (s, r)
  | before, s, r, p :: l => if p.2 > before then kindGo p.2 true r l else kindGo p.2 s true l
theorem kindGo_cons (b : Int) (s r : Bool) (p : Int × Int) (l : List (Int × Int)) : kindGo b s r (p :: l) = if p.2 > b then kindGo p.2 true r l else kindGo p.2 s true l := rfl
def kindOf (z : Zone) : Str := match kindGo z.1 false false z.2 with
  | (true, true) => "both"
  | (true, false) => "skips"
  | (false, true) => "repeats"
  | (false, false) => "fixed"
/-! ### promises -/
def sp_offset_in_force (K : PySem.W.Frag) : Sp := fun vs H Q _ => ∃ (zv : V) (z : Zone) (t : Int), vs = [zv, .int t] ∧ ZV K H zv z ∧ ∀ H', Ex H H' → Q (.int (off z t)) H'
def sp_instants_with (K : PySem.W.Frag) : Sp := fun vs H Q _ => ∃ (zv : V) (z : Zone) (t : Int), vs = [zv, .int t] ∧ ZV K H zv z ∧ z.2.length ≤ 8 ∧
  ∀ p H' (ns : List Int), H p = none → Ex H H' → TupD H' p (ns.map V.int) → ns.Pairwise (· < ·) → (∀ k, k ∈ ns ↔ k + off z k = t) → Q (.ref p) H'
def sp_is_between (K : PySem.W.Frag) : Sp := fun vs H Q _ => ∃ v lo hi : Int, vs = [.int v, .int lo, .int hi] ∧ Q (.bl (decide (lo ≤ v ∧ v ≤ hi))) H
def sp_is_tuple_of (K : PySem.W.Frag) : Sp := fun vs H Q _ => ∃ (n : Int) (a : Addr) (xs : List V), vs = [.int n, .ref a] ∧ SqT K H a xs ∧ Q (.bl (decide ((xs.length : Int) = n))) H
def sp_is_instant (K : PySem.W.Frag) : Sp := fun vs H Q _ => ∃ v : Int, vs = [.int v] ∧ Q (.bl (decide (-100000 ≤ v ∧ v ≤ 100000))) H
def sp_is_reading (K : PySem.W.Frag) : Sp := fun vs H Q _ => ∃ v : Int, vs = [.int v] ∧ Q (.bl (decide (-90000 ≤ v ∧ v ≤ 90000))) H
def sp_is_zone (K : PySem.W.Frag) : Sp := fun vs H Q _ => ∃ (zv : V) (z : Zone), vs = [zv] ∧ ZV K H zv z ∧ Q (.bl (okZ z)) H
def sp_are_changes_after (K : PySem.W.Frag) : Sp := fun vs H Q _ => ∃ (o : Int) (c : V) (cs : List (Int × Int)), vs = [.int o, c] ∧ CsV K H c cs ∧ Q (.bl (okGo o (-1000) cs)) H
def sp_is_change_after (K : PySem.W.Frag) : Sp := fun vs H Q _ => ∃ (b e : Int) (c : V) (p : Int × Int), vs = [.int b, .int e, c] ∧ PV K H c p ∧ Q (.bl (okC b e p)) H
def sp_check_zone (K : PySem.W.Frag) : Sp := fun vs H Q _ => ∃ (zv : V) (z : Zone), vs = [zv] ∧ ZV K H zv z ∧ okZ z = true ∧ Q .non H
def sp_check_instant (K : PySem.W.Frag) : Sp := fun vs H Q _ => ∃ v : Int, vs = [.int v] ∧ -100000 ≤ v ∧ v ≤ 100000 ∧ Q .non H
def sp_check_reading (K : PySem.W.Frag) : Sp := fun vs H Q _ => ∃ v : Int, vs = [.int v] ∧ -90000 ≤ v ∧ v ≤ 90000 ∧ Q .non H
def sp_offset_at (K : PySem.W.Frag) : Sp := fun vs H Q _ => ∃ (zv : V) (z : Zone) (t : Int), vs = [zv, .int t] ∧ ZV K H zv z ∧ okZ z = true ∧ -100000 ≤ t ∧ t ≤ 100000 ∧ ∀ H', Ex H H' → Q (.int (off z t)) H'
def sp_kind_of (K : PySem.W.Frag) : Sp := fun vs H Q _ => ∃ (zv : V) (z : Zone), vs = [zv] ∧ ZV K H zv z ∧ okZ z = true ∧ ∀ H', Ex H H' → Q (.str (kindOf z)) H'
def sp_instants_of (K : PySem.W.Frag) : Sp := fun vs H Q _ => ∃ (zv : V) (z : Zone) (t : Int), vs = [zv, .int t] ∧ ZV K H zv z ∧ okZ z = true ∧ -90000 ≤ t ∧ t ≤ 90000 ∧
  ∀ p H' (ns : List Int), H p = none → Ex H H' → TupD H' p (ns.map V.int) → ns.Pairwise (· < ·) → (∀ k, k ∈ ns ↔ k + off z k = t) → Q (.ref p) H'
section
variable {P : Program} {w : World} {K : PySem.W.Frag} {mg : Str → Option Value} {base : Heap}
theorem ok_is_tuple_of (T : Txt w K mg) : FnOk P w K mg base CX0 1 T.f_is_tuple_of.f T.f_is_tuple_of.fd ["many", "value"] (sp_is_tuple_of K) := by
  refine T.f_is_tuple_of.F.ok sc_is_tuple_of (fun vs H Q E h => ?_) (fun cdv A outer s H vs Q E hr h => ?_)
  · obtain ⟨v, a, xs, rfl, _⟩ := h
    rfl
  obtain ⟨v, a, xs, rfl, hx, k⟩ := h
  refine ⟨(tRet (tAndV (tCB (rIsi K) (tCons (tVar 1) (tCons (tC (.ty "tuple")) tNil))) (tOp rEq (tCB (Evl.rLenS K) (tCons (tVar 1) tNil)) (tVar 0)))),
    PSs.nox (pss_one (ps_ret (pe_and (pe_callB call_isi (by rfl) T.z_isinstance (by decide +kernel) (pa_cons (pv 1) (pa_cons (pe_bltn (by rfl) T.z_tuple (by decide +kernel) rfl) pa_nil))) (pe_one (pe_cmpR op_eq (pe_callB call_len_seq (by rfl) T.z_len (by decide +kernel) (pa_cons (pv 1) pa_nil)) (pv 0) (nomark _)))))), ?_⟩
  walk_at "gg"
  refine g_isi (ty_tup hx) (by decide +kernel : kitB "tuple" "tuple" = some true) ?_
  walk_at "gg"
  refine g_lenT hx ?_
  walk_at "gg"
  exact k
end

/-! ### draws -/
def sp_law_taken (K : PySem.W.Frag) : Sp := fun vs H Q _ => ∃ (ρ : Rw) (n : Int), vs = [.ref ρ.1, .int n] ∧ Row K H ρ ∧ 0 < n ∧ n ≤ 1000000 ∧
  ∀ v H', 0 ≤ v → v < n → Fr ρ.1 H H' → Row K H' ρ → Q (.int v) H'
def sp_law_pick (K : PySem.W.Frag) : Sp := fun vs H Q _ => ∃ (ρ : Rw) (k : Addr) (xs : List V), vs = [.ref ρ.1, .ref k] ∧ Row K H ρ ∧ H k = some (.lst xs) ∧ k ≠ ρ.1 ∧ 0 < xs.length ∧ xs.length ≤ 1000 ∧
  ∀ x H', x ∈ xs → Fr ρ.1 H H' → Row K H' ρ → Q x H'
section
variable {P : Program} {w : World} {K : PySem.W.Frag} {mg : Str → Option Value} {base : Heap}
theorem ok_law_taken (T : Txt w K mg) : FnOk P w K mg base CX0 1 T.f_law_taken.f T.f_law_taken.fd ["row", "many"] (sp_law_taken K) := by
  refine T.f_law_taken.F.ok sc_law_taken (fun vs H Q E h => ?_) (fun cdv A outer s H vs Q E hr h => ?_)
  · obtain ⟨ρ, n, rfl, _⟩ := h
    rfl
  obtain ⟨ρ, n, rfl, ⟨i, sd, t, hl, hs, b1, b2, b3⟩, n1, n2, k⟩ := h
  have hm := fun (v : Int) => And.intro (Int.emod_nonneg v (by omega : n ≠ 0)) (Int.emod_lt_of_pos v n1)
  have m31 := fun (v : Int) => And.intro (Int.emod_nonneg v (by omega : (2147483647 : Int) ≠ 0)) (Int.emod_lt_of_pos v (by omega : (0 : Int) < 2147483647))
  refine ⟨(tSeq (tIfS (tTest (tOp (rI0 fun i j => .bl (decide (j < i))) (tOp (rIxL K) (tVar 0) (tC (.int 3))) (tC (.int 0)))) (tSeq (tAsg (tOp (rI (fun _ j => 0 < j) fun i j => .int (i % j)) (tCB r_int (tCons (tOp (rIxL K) (tVar 0) (tC (.int 3))) tNil)) (tVar 1)) (gName 2)) (tSeq (tAsg (tOp (rI CDivW fun i j => .int (i / j)) (tOp (rIxL K) (tVar 0) (tC (.int 3))) (tVar 1)) (gSub (tVar 0) (tC (.int 3)) rSetL)) (tRet (tVar 2)))) tNext) (tSeq (tAsg (tOp (rI0 fun i j => .int (i + j)) (tOp (rIxL K) (tVar 0) (tC (.int 1))) (tC (.int 1))) (gSub (tVar 0) (tC (.int 1)) rSetL)) (tSeq (tIfS (tTest (tOp (rI0 fun i j => .bl (decide (j < i))) (tOp (rIxL K) (tVar 0) (tC (.int 1))) (tCB (Evl.rLenS K) (tCons (tOp (rIxL K) (tVar 0) (tC (.int 0))) tNil)))) (tSeq (tAsg (tOp (rI (fun _ j => 0 < j) fun i j => .int (i % j)) (tCB r_int (tCons (tOp (rI0 fun i j => .int (i + j)) (tOp (rI CMul fun i j => .int (i * j)) (tOp (rIxL K) (tVar 0) (tC (.int 2))) (tC (.int 48271))) (tC (.int 11))) tNil)) (tC (.int 2147483647))) (gSub (tVar 0) (tC (.int 2)) rSetL)) (tRet (tOp (rI (fun _ j => 0 < j) fun i j => .int (i % j)) (tCB r_int (tCons (tOp (rI CDivW fun i j => .int (i / j)) (tOp (rIxL K) (tVar 0) (tC (.int 2))) (tC (.int 7))) tNil)) (tVar 1)))) tNext) (tSeq (tAsg (tOp (rIxL K) (tOp (rIxL K) (tVar 0) (tC (.int 0))) (tOp (rI0 fun i j => .int (i - j)) (tOp (rIxL K) (tVar 0) (tC (.int 1))) (tC (.int 1)))) (gName 3)) (tSeq (tAsg (tOp (rI (fun _ j => 0 < j) fun i j => .int (i % j)) (tCB r_int (tCons (tOp (rI0 fun i j => .int (i + j)) (tOp (rI0 fun i j => .int (i + j)) (tOp (rI CMul fun i j => .int (i * j)) (tOp (rIxL K) (tVar 0) (tC (.int 2))) (tC (.int 48271))) (tVar 3)) (tC (.int 11))) tNil)) (tC (.int 2147483647))) (gSub (tVar 0) (tC (.int 2)) rSetL)) (tSeq (tIfS (tTest (tOp (rI0 fun i j => .bl (decide (j ≤ i))) (tVar 3) (tOp (rI CPow fun i j => .int (i ^ j.toNat)) (tC (.int 10)) (tC (.int 18))))) (tAsg (tOp (rI CDivW fun i j => .int (i / j)) (tVar 3) (tVar 1)) (gSub (tVar 0) (tC (.int 3)) rSetL)) tNext) (tRet (tOp (rI (fun _ j => 0 < j) fun i j => .int (i % j)) (tCB r_int (tCons (tVar 3) tNil)) (tVar 1))))))))),
    PSs.nox (pss_cons (ps_if (pt_cmpR op_gt (pe_ix ix_list (pv 0) pe_int (fun _ _ => rfl)) pe_int (nomark _)) (pss_cons (ps_set (i := 2) sc_law_taken.nd rfl (Or.inl rfl) (pe_op op_mod (pe_callTy call_int1 (by rfl) T.z_int (by decide +kernel) (pa_cons (pe_ix ix_list (pv 0) pe_int (fun _ _ => rfl)) pa_nil)) (pv 1))) (pss_cons (ps_asg (pe_op op_fdivW (pe_ix ix_list (pv 0) pe_int (fun _ _ => rfl)) (pv 1)) (pg_sub (pv 0) pe_int set_list)) (pss_one (ps_ret (pv 2))))) pss_nil) (pss_cons (ps_asg (pe_op op_add (pe_ix ix_list (pv 0) pe_int (fun _ _ => rfl)) pe_int) (pg_sub (pv 0) pe_int set_list)) (pss_cons (ps_if (pt_cmpR op_gt (pe_ix ix_list (pv 0) pe_int (fun _ _ => rfl)) (pe_callB call_len_seq (by rfl) T.z_len (by decide +kernel) (pa_cons (pe_ix ix_list (pv 0) pe_int (fun _ _ => rfl)) pa_nil)) (nomark _)) (pss_cons (ps_asg (pe_op op_mod (pe_callTy call_int1 (by rfl) T.z_int (by decide +kernel) (pa_cons (pe_op op_add (pe_op op_mul (pe_ix ix_list (pv 0) pe_int (fun _ _ => rfl)) pe_int) pe_int) pa_nil)) pe_int) (pg_sub (pv 0) pe_int set_list)) (pss_one (ps_ret (pe_op op_mod (pe_callTy call_int1 (by rfl) T.z_int (by decide +kernel) (pa_cons (pe_op op_fdivW (pe_ix ix_list (pv 0) pe_int (fun _ _ => rfl)) pe_int) pa_nil)) (pv 1))))) pss_nil) (pss_cons (ps_set (i := 3) sc_law_taken.nd rfl (Or.inl rfl) (pe_ix ix_list (pe_ix ix_list (pv 0) pe_int (fun _ _ => rfl)) (pe_op op_sub (pe_ix ix_list (pv 0) pe_int (fun _ _ => rfl)) pe_int) (fun _ _ => rfl))) (pss_cons (ps_asg (pe_op op_mod (pe_callTy call_int1 (by rfl) T.z_int (by decide +kernel) (pa_cons (pe_op op_add (pe_op op_add (pe_op op_mul (pe_ix ix_list (pv 0) pe_int (fun _ _ => rfl)) pe_int) (pv 3)) pe_int) pa_nil)) pe_int) (pg_sub (pv 0) pe_int set_list)) (pss_cons (ps_if (pt_cmpR op_ge (pv 3) (pe_op op_pow pe_int pe_int) (nomark _)) (pss_one (ps_asg (pe_op op_fdivW (pv 3) (pv 1)) (pg_sub (pv 0) pe_int set_list))) pss_nil) (pss_one (ps_ret (pe_op op_mod (pe_callTy call_int1 (by rfl) T.z_int (by decide +kernel) (pa_cons (pv 3) pa_nil)) (pv 1)))))))))), ?_⟩
  walk_at "gg"
  refine g_ixL (SqL.of hl) rfl ?_
  walk_at "gg"
  refine if_d (fun c => ?_) (fun c => ?_)
  · walk_at "gg"
    refine g_ixL (SqL.of hl) rfl ?_
    walk_at "gg"
    refine g_ixL (SqL.of hl) rfl ?_
    walk_at "gg"
    refine g_setL hl rfl fun H1 e1 h1 => ?_
    walk_at "gg"
    exact k _ H1 (hm _).1 (hm _).2 e1 ⟨i, sd, _, h1, hs.fr e1, b1, b2, b3⟩
  · walk_at "gg"
    refine g_ixL (SqL.of hl) rfl ?_
    walk_at "gg"
    refine g_setL hl rfl fun H1 e1 h1 => ?_
    walk_at "gg"
    refine g_ixL (SqL.of h1) rfl ?_
    walk_at "gg"
    refine g_ixL (SqL.of h1) rfl ?_
    walk_at "gg"
    refine g_lenL (hs H1 e1) ?_
    walk_at "gg"
    rw [List.length_map]
    refine if_d (fun c2 => ?_) (fun c2 => ?_)
    · walk_at "gg"
      refine g_ixL (SqL.of h1) rfl ?_
      walk_at "gg"
      refine g_setL h1 rfl fun H2 e2 h2 => ?_
      walk_at "gg"
      refine g_ixL (SqL.of h2) rfl ?_
      walk_at "gg"
      have z := m31 (sd * 48271 + 11)
      exact k _ H2 (hm _).1 (hm _).2 (e1.trans e2) ⟨_, _, _, h2, hs.fr (e1.trans e2), by omega, z.1, by omega⟩
    · walk_at "gg"
      refine g_ixL (SqL.of h1) rfl ?_
      walk_at "gg"
      refine g_ixL (SqL.of h1) rfl ?_
      walk_at "gg"
      have lt : i.toNat < ρ.2.2.length := by omega
      refine g_ixL (hs H1 e1) (v := .int ρ.2.2[i.toNat]) (atI_of (by omega) ?_) ?_
      · rw [List.getElem?_map, show i + 1 - 1 = i by omega, List.getElem?_eq_getElem lt]
        rfl
      generalize ρ.2.2[i.toNat] = cell
      walk_at "gg"
      refine g_ixL (SqL.of h1) rfl ?_
      walk_at "gg"
      refine g_setL h1 rfl fun H2 e2 h2 => ?_
      walk_at "gg"
      have z := m31 (sd * 48271 + cell + 11)
      refine if_d (fun c3 => ?_) (fun c3 => ?_)
      · walk_at "gg"
        refine g_setL h2 rfl fun H3 e3 h3 => ?_
        walk_at "gg"
        exact k _ H3 (hm _).1 (hm _).2 ((e1.trans e2).trans e3) ⟨_, _, _, h3, hs.fr ((e1.trans e2).trans e3), by omega, z.1, by omega⟩
      · walk_at "gg"
        exact k _ H2 (hm _).1 (hm _).2 (e1.trans e2) ⟨_, _, _, h2, hs.fr (e1.trans e2), by omega, z.1, by omega⟩
theorem ok_law_pick (T : Txt w K mg) : FnOk P w K mg base CX0 2 T.f_law_pick.f T.f_law_pick.fd ["row", "kinds"] (sp_law_pick K) := by
  refine T.f_law_pick.F.ok sc_law_pick (fun vs H Q E h => ?_) (fun cdv A outer s H vs Q E hr h => ?_)
  · obtain ⟨ρ, kk, xs, rfl, _⟩ := h
    rfl
  obtain ⟨ρ, kk, xs, rfl, hR, hk, ne, l1, l2, k⟩ := h
  refine ⟨(tRet (tOp (rIxL K) (tVar 1) (tCall (sp_law_taken K) [] E0 (tCons (tVar 0) (tCons (tCB (Evl.rLenS K) (tCons (tVar 1) tNil)) tNil))))),
    PSs.nox (pss_one (ps_ret (pe_ix ix_list (pv 1) (pe_call (ok_law_taken T) (hr.mono (by decide)) (by rfl) T.f_law_taken.g T.f_law_taken.F.kp T.f_law_taken.b .nil pass0 (pa_cons (pv 0) (pa_cons (pe_callB call_len_seq (by rfl) T.z_len (by decide +kernel) (pa_cons (pv 1) pa_nil)) pa_nil))) (fun _ _ => rfl)))), ?_⟩
  walk_at "gg"
  refine g_lenL (SqL.of hk) ?_
  walk_at "gg"
  refine ⟨ρ, _, rfl, hR, by omega, by omega, fun v H1 v0 v1 e1 R1 => ?_⟩
  have lt : v.toNat < xs.length := by omega
  refine g_ixL (SqL.of (e1 _ _ ne hk)) (atI_of v0 (List.getElem?_eq_getElem lt)) ?_
  exact k _ H1 (List.getElem_mem lt) e1 R1
end

/-! ### the mathematics of the law's own steps -/
theorem okGo_after : ∀ {b e : Int} {cs : List (Int × Int)}, okGo b e cs = true → ∀ p ∈ cs, e ≤ p.1
  | _, _, [], _, _, h => nomatch h
  | b, e, p :: r, h, q, hq => by
    rw [okGo_cons, Bool.and_eq_true] at h
    have h1 := h.1
    unfold okC at h1
    simp only [Bool.and_eq_true, decide_eq_true_eq] at h1
    rcases List.mem_cons.mp hq with rfl | hq
    · exact h1.1.1
    · have := okGo_after h.2 q hq
      omega
theorem off_filter (t : Int) : ∀ {b e : Int} {cs : List (Int × Int)} (cur : Int), okGo b e cs = true →
    offGo t cur cs = ((cs.filter fun p => decide (p.1 ≤ t)).map (·.2)).getLast?.getD cur
  | _, _, [], _, _ => rfl
  | b, e, p :: r, cur, h => by
    have h0 := h
    rw [okGo_cons, Bool.and_eq_true] at h
    unfold offGo
    split
    next c =>
      have em : (p :: r).filter (fun p => decide (p.1 ≤ t)) = [] := by
        rw [List.filter_eq_nil_iff]
        intro q hq
        rcases List.mem_cons.mp hq with rfl | hq
        · simp; omega
        · have := okGo_after h.2 q hq
          simp; omega
      rw [em]
      rfl
    next c =>
      have hp : decide (p.1 ≤ t) = true := decide_eq_true (by omega)
      rw [List.filter_cons, if_pos hp, List.map_cons, List.getLast?_cons, off_filter t p.2 h.2]
      rfl
theorem okGo_offs : ∀ {b e : Int} {cs : List (Int × Int)}, okGo b e cs = true → ∀ p ∈ cs, -15 ≤ p.2 ∧ p.2 ≤ 15 ∧ e ≤ p.1 ∧ p.1 ≤ 1000
  | _, _, [], _, _, h => nomatch h
  | b, e, p :: r, h, q, hq => by
    have h0 := okGo_after h q hq
    rw [okGo_cons, Bool.and_eq_true] at h
    have h1 := h.1
    unfold okC at h1
    simp only [Bool.and_eq_true, decide_eq_true_eq] at h1
    rcases List.mem_cons.mp hq with rfl | hq
    · omega
    · have := okGo_offs h.2 q hq
      omega
structure OkZ (z : Zone) : Prop where
  lo : -12 ≤ z.1
  hi : z.1 ≤ 12
  len : z.2.length ≤ 8
  go : okGo z.1 (-1000) z.2 = true
theorem OkZ.of {z : Zone} (h : okZ z = true) : OkZ z := by
  unfold okZ at h
  simp only [Bool.and_eq_true, decide_eq_true_eq] at h
  exact ⟨h.1.1, h.1.2, h.2.1, h.2.2⟩
theorem OkZ.offs {z : Zone} (h : OkZ z) (t : Int) : -15 ≤ off z t ∧ off z t ≤ 15 := by
  have m := offGo_mem t z.2 z.1
  have l := h.lo
  have u := h.hi
  unfold off
  rcases List.mem_cons.mp m with e | e
  · rw [e]; omega
  · obtain ⟨p, hp, q⟩ := List.mem_map.mp e
    rw [← q]
    have := okGo_offs h.go p hp
    omega
/-- the instants with a reading -/
def insts (z : Zone) (t : Int) : List Int := (irange (t - 16) 33).filter fun k => decide (k + off z k = t)
theorem insts_mem {z : Zone} (h : OkZ z) {t k : Int} : k ∈ insts z t ↔ k + off z k = t := by
  unfold insts
  rw [List.mem_filter, decide_eq_true_eq, irange_mem]
  have := h.offs k
  constructor
  · exact fun q => q.2
  · exact fun q => ⟨by omega, q⟩
theorem insts_rise (z : Zone) (t : Int) : (insts z t).Pairwise (· < ·) := (irange_rise _ _).filter _
/-! ### promises -/
def sp_law_alike (K : PySem.W.Frag) : Nat → Sp
  | 0 => fun _ _ _ _ => False
  | n + 1 => fun vs H Q _ => ∃ (x y : V) (d : PyData), vs = [x, y] ∧ Dp K H x d ∧ Dp K H y d ∧ fits n d = true ∧ ∀ H', Ex H H' → Q (.bl true) H'
def sp_law_offset (K : PySem.W.Frag) : Sp := fun vs H Q _ => ∃ (zv : V) (z : Zone) (t : Int), vs = [zv, .int t] ∧ ZV K H zv z ∧ OkZ z ∧ ∀ H', Ex H H' → Q (.int (off z t)) H'
def sp_law_instants (K : PySem.W.Frag) : Sp := fun vs H Q _ => ∃ (zv : V) (z : Zone) (t : Int), vs = [zv, .int t] ∧ ZV K H zv z ∧ OkZ z ∧ -1000000000 ≤ t ∧ t ≤ 1000000000 ∧
  ∀ p H', H p = none → Ex H H' → H' p = some (.lst ((insts z t).map V.int)) → Q (.ref p) H'
section
variable {P : Program} {w : World} {K : PySem.W.Frag} {mg : Str → Option Value} {base : Heap}
theorem ok_law_offset (T : Txt w K mg) : FnOk P w K mg base CX0 1 T.f_law_offset.f T.f_law_offset.fd ["zone", "instant"] (sp_law_offset K) := by
  refine T.f_law_offset.F.ok sc_law_offset (fun vs H Q E h => ?_) (fun cdv A outer s H vs Q E hr h => ?_)
  · obtain ⟨zv, z, t, rfl, _⟩ := h
    rfl
  obtain ⟨zv, z, t, rfl, ⟨a, c, rfl, ha, b, xs, rfl, hb, hp⟩, hz, k⟩ := h
  have hf := off_filter t z.1 hz.go
  refine ⟨(tSeq (tAsg (tLc (iTup K (tOp (rIxT K) (tVar 0) (tC (.int 1)))) (gTup K 2 (gCons (gName 3) (gCons (gName 4) gNil))) (tTest (tOp (rI0 fun i j => .bl (decide (i ≤ j))) (tVar 3) (tVar 1))) (tVar 4) [3, 4]) (gName 2)) (tRet (tIf (tTest (tOp (rNeD K) (tVar 2) (tLst tNil))) (tOp (rIxL K) (tVar 2) (tUn (rU fun i => .int (-i)) (tC (.int 1)))) (tOp (rIxT K) (tVar 0) (tC (.int 0)))))),
    PSs.nox (pss_cons (ps_setLc (i := 2) (own := [("at", 3), ("after", 4)]) rfl sc_law_offset.nd rfl rfl (sw_true rfl rfl rfl (by decide +kernel)) (pi_tup (pe_ix ix_tup (pv 0) pe_int (fun _ _ => rfl))) (blkOk_by (own := [("at", 3), ("after", 4)]) (N := ["zone", "instant", "some", "at", "after"]) (sc := defScope s_law_offset) (by decide +kernel)) (fun _ _ _ _ _ => (pg_tup rfl (pgs_cons (pg_name (i := 3) sc_law_offset.nd rfl (Or.inl rfl)) (pgs_cons (pg_name (i := 4) sc_law_offset.nd rfl (Or.inl rfl)) pgs_nil)))) (fun _ _ _ _ _ => (pts_one (pt_cmpR op_le (pv 3) (pv 1) (nomark _)))) (fun _ _ _ _ _ => (pv 4))) (pss_one (ps_ret (pe_ifExp (pt_cmpR (op_neD hr.units) (pv 2) (pe_lst pa_nil) (nomark _)) (pe_ix ix_list (pv 2) (pe_un un_neg pe_int) (fun _ _ => rfl)) (pe_ix ix_tup (pv 0) pe_int (fun _ _ => rfl)))))), ?_⟩
  walk_at "gg"
  refine g_lcT (F := PV K) hb hp (by have := hz.len; omega) (fun p => decide (p.1 ≤ t)) (fun p => .int p.2) (fun _ _ _ e h => h.tr (TrT.of e)) ?_ ?_
  · rintro p x H2 e2 ⟨y, rfl, hy⟩ R S hR hS
    walk_at "gg"
    refine ⟨rfl, ?_⟩
    walk_at "gg"
    refine if_d (fun c => ?_) (fun c => ?_)
    · walk_at "gg"
      exact hS (decide_eq_true c) _ (Evl.Ex.refl _)
    · exact hR (decide_eq_false c) _ (Evl.Ex.refl _)
  rintro l1 H1 n1 e1 h1
  have h1' : H1 l1 = some (.lst (((z.2.filter fun p => decide (p.1 ≤ t)).map (·.2)).map V.int)) := by
    rw [h1, List.map_map]
    rfl
  walk_at "gg"
  refine g_newL (by simp) fun l2 H2 n2 e2 h2 => ?_
  refine g_neNil (e2 _ _ h1') h2 ?_
  have k2 := k H2 (e1.trans e2)
  unfold off at k2
  rw [hf] at k2
  generalize (z.2.filter fun p => decide (p.1 ≤ t)).map (·.2) = ns at *
  walk_at "gg"
  cases hn : ns.getLast? with
  | none =>
    rw [List.getLast?_eq_none_iff] at hn
    subst hn
    walk_at "gg"
    exact k2
  | some v =>
    rw [hn] at k2
    have ne : ns.isEmpty = false := by cases ns with | nil => cases hn | cons _ _ => rfl
    rw [ne]
    walk_at "gg"
    refine g_ixL (SqL.of (e2 _ _ h1')) (atI_end (v := V.int v) ?_) k2
    rw [List.getLast?_map, hn]
    rfl
theorem ok_law_instants (T : Txt w K mg) : FnOk P w K mg base CX0 2 T.f_law_instants.f T.f_law_instants.fd ["zone", "reading"] (sp_law_instants K) := by
  refine T.f_law_instants.F.ok sc_law_instants (fun vs H Q E h => ?_) (fun cdv A outer s H vs Q E hr h => ?_)
  · obtain ⟨zv, z, t, rfl, _⟩ := h
    rfl
  obtain ⟨zv, z, t, rfl, hv, hz, b1, b2, k⟩ := h
  refine ⟨(tRet (tLc (iRng2 (tCons (tOp (rI0 fun i j => .int (i - j)) (tVar 1) (tC (.int 16))) (tCons (tOp (rI0 fun i j => .int (i + j)) (tVar 1) (tC (.int 17))) tNil))) (gName 2) (tTest (tOp rEq (tOp (rI0 fun i j => .int (i + j)) (tVar 2) (tCall (sp_law_offset K) [] E0 (tCons (tVar 0) (tCons (tVar 2) tNil)))) (tVar 1))) (tVar 2) [2])),
    PSs.nox (pss_one (ps_ret (pe_lc (own := [("each", 2)]) rfl sc_law_instants.nd (pi_range2 (by rfl) T.z_range (pa_cons (pe_op op_sub (pv 1) pe_int) (pa_cons (pe_op op_add (pv 1) pe_int) pa_nil))) (blkOk_by (own := [("each", 2)]) (N := ["zone", "reading", "each"]) (sc := defScope s_law_instants) (by decide +kernel)) (fun _ _ _ _ _ => (pg_name (i := 2) sc_law_instants.nd rfl (Or.inl rfl))) (fun _ _ _ _ _ => (pts_one (pt_cmpR op_eq (pe_op op_add (pv 2) (pe_call (ok_law_offset T) (hr.mono (by decide)) (by rfl) T.f_law_offset.g T.f_law_offset.F.kp T.f_law_offset.b .nil pass0 (pa_cons (pv 0) (pa_cons (pv 2) pa_nil)))) (pv 1) (nomark _)))) (fun _ _ _ _ _ => (pv 2))))), ?_⟩
  walk_at "gg"
  refine g_lcRng2 ?_
  walk_at "gg"
  refine g_lcR2 (by omega) (by omega) (by omega) (by omega) (fun k => decide (k + off z k = t)) (fun k => .int k) ?_ ?_
  · rintro i H2 e2 _ _ R S hR hS
    walk_at "gg"
    refine ⟨rfl, ?_⟩
    walk_at "gg"
    refine ⟨_, _, _, rfl, hv.tr (TrT.of e2), hz, fun H3 e3 => ?_⟩
    walk_at "gg"
    refine if_d (fun c => ?_) (fun c => ?_)
    · walk_at "gg"
      exact hS (decide_eq_true c) _ e3
    · exact hR (decide_eq_false c) _ e3
  intro D H1 n1 e1 h1
  refine k D H1 n1 e1 ?_
  rw [h1, show (t + 17 - (t - 16)).toNat = 33 by omega]
  rfl
theorem ok_law_alike (T : Txt w K mg) : ∀ n : Nat, FnOk P w K mg base CX0 (n + 1) T.f_law_alike.f T.f_law_alike.fd ["found", "due"] (sp_law_alike K n) := by
  intro n
  induction n with
  | zero => exact T.f_law_alike.F.ok sc_law_alike (fun vs H Q E h => h.elim) (fun cdv A outer s H vs Q E hr h => h.elim)
  | succ n IH =>
    refine T.f_law_alike.F.ok sc_law_alike (fun vs H Q E h => ?_) (fun cdv A outer s H vs Q E hr h => ?_)
    · obtain ⟨x, y, d, rfl, _⟩ := h
      rfl
    obtain ⟨x, y, d, rfl, hx, hy, hf, k⟩ := h
    refine ⟨(tSeq (tIfS (tB (tCB (rIsiT K) (tCons (tVar 1) (tCons (tTup (tCons (tC (.ty "tuple")) (tCons (tC (.ty "list")) tNil))) tNil)))) (tSeq (tIfS (tOr (tNot (tB (tCB (rIsiT K) (tCons (tVar 0) (tCons (tTup (tCons (tC (.ty "tuple")) (tCons (tC (.ty "list")) tNil))) tNil))))) (tTest (tOp rNe (tCB (rIsi K) (tCons (tVar 0) (tCons (tC (.ty "list")) tNil))) (tCB (rIsi K) (tCons (tVar 1) (tCons (tC (.ty "list")) tNil)))))) (tRet (tC (.bl false))) tNext) (tSeq (tIfS (tTest (tOp rNe (tCB (Evl.rLenS K) (tCons (tVar 0) tNil)) (tCB (Evl.rLenS K) (tCons (tVar 1) tNil)))) (tRet (tC (.bl false))) tNext) (tRet (tOp (rEqD K) (tLc (iRng1 (tCons (tCB (Evl.rLenS K) (tCons (tVar 1) tNil)) tNil)) (gName 2) (tNot (tB (tCall (sp_law_alike K n) [] E0 (tCons (tOp (rIxT K) (tVar 0) (tVar 2)) (tCons (tOp (rIxT K) (tVar 1) (tVar 2)) tNil))))) (tVar 2) [2]) (tLst tNil))))) tNext) (tSeq (tIfS (tOr (tTest (tOp r_isN (tVar 1) (tC .non))) (tB (tCB (rIsi K) (tCons (tVar 1) (tCons (tC (.ty "str")) tNil))))) (tRet (tAndV (tOp rEq (tVar 0) (tVar 1)) (tOp rEq (tCB (rIsi K) (tCons (tVar 0) (tCons (tC (.ty "str")) tNil))) (tCB (rIsi K) (tCons (tVar 1) (tCons (tC (.ty "str")) tNil)))))) tNext) (tRet (tAndV (tCB (rIsi K) (tCons (tVar 0) (tCons (tC (.ty "int")) tNil))) (tAndV (tOp rEq (tCB (rIsi K) (tCons (tVar 0) (tCons (tC (.ty "bool")) tNil))) (tCB (rIsi K) (tCons (tVar 1) (tCons (tC (.ty "bool")) tNil)))) (tOp rEq (tVar 0) (tVar 1))))))),
    PSs.nox (pss_cons (ps_if (pt_val (pe_callB call_isiT (by rfl) T.z_isinstance (by decide +kernel) (pa_cons (pv 1) (pa_cons (pe_tup (pa_cons (pe_bltn (by rfl) T.z_tuple (by decide +kernel) rfl) (pa_cons (pe_bltn (by rfl) T.z_list (by decide +kernel) rfl) pa_nil))) pa_nil)))) (pss_cons (ps_if (PW.pt (pw_or (pt_not (pt_val (pe_callB call_isiT (by rfl) T.z_isinstance (by decide +kernel) (pa_cons (pv 0) (pa_cons (pe_tup (pa_cons (pe_bltn (by rfl) T.z_tuple (by decide +kernel) rfl) (pa_cons (pe_bltn (by rfl) T.z_list (by decide +kernel) rfl) pa_nil))) pa_nil))))) (pw_or1 (pt_cmpR op_ne (pe_callB call_isi (by rfl) T.z_isinstance (by decide +kernel) (pa_cons (pv 0) (pa_cons (pe_bltn (by rfl) T.z_list (by decide +kernel) rfl) pa_nil))) (pe_callB call_isi (by rfl) T.z_isinstance (by decide +kernel) (pa_cons (pv 1) (pa_cons (pe_bltn (by rfl) T.z_list (by decide +kernel) rfl) pa_nil))) (nomark _))))) (pss_one (ps_ret pe_bl)) pss_nil) (pss_cons (ps_if (pt_cmpR op_ne (pe_callB call_len_seq (by rfl) T.z_len (by decide +kernel) (pa_cons (pv 0) pa_nil)) (pe_callB call_len_seq (by rfl) T.z_len (by decide +kernel) (pa_cons (pv 1) pa_nil)) (nomark _)) (pss_one (ps_ret pe_bl)) pss_nil) (pss_one (ps_ret (pe_cmpR (op_eqD hr.units) (pe_lc (own := [("k", 2)]) rfl sc_law_alike.nd (pi_range1 (by rfl) T.z_range (pa_cons (pe_callB call_len_seq (by rfl) T.z_len (by decide +kernel) (pa_cons (pv 1) pa_nil)) pa_nil)) (blkOk_by (own := [("k", 2)]) (N := ["found", "due", "k"]) (sc := defScope s_law_alike) (by decide +kernel)) (fun _ _ _ _ _ => (pg_name (i := 2) sc_law_alike.nd rfl (Or.inl rfl))) (fun _ _ _ _ _ => (pts_one (pt_not (pt_val (pe_call IH hr (by rfl) T.f_law_alike.g T.f_law_alike.F.kp T.f_law_alike.b .nil pass0 (pa_cons (pe_ix ix_tup (pv 0) (pv 2) (fun _ _ => rfl)) (pa_cons (pe_ix ix_tup (pv 1) (pv 2) (fun _ _ => rfl)) pa_nil))))))) (fun _ _ _ _ _ => (pv 2))) (pe_lst pa_nil) (nomark _)))))) pss_nil) (pss_cons (ps_if (PW.pt (pw_or (pt_cmpR op_isN (pv 1) pe_non (nomark _)) (pw_or1 (pt_val (pe_callB call_isi (by rfl) T.z_isinstance (by decide +kernel) (pa_cons (pv 1) (pa_cons (pe_bltn (by rfl) T.z_str (by decide +kernel) rfl) pa_nil))))))) (pss_one (ps_ret (pe_and (pe_cmpR op_eq (pv 0) (pv 1) (nomark _)) (pe_one (pe_cmpR op_eq (pe_callB call_isi (by rfl) T.z_isinstance (by decide +kernel) (pa_cons (pv 0) (pa_cons (pe_bltn (by rfl) T.z_str (by decide +kernel) rfl) pa_nil))) (pe_callB call_isi (by rfl) T.z_isinstance (by decide +kernel) (pa_cons (pv 1) (pa_cons (pe_bltn (by rfl) T.z_str (by decide +kernel) rfl) pa_nil))) (nomark _)))))) pss_nil) (pss_one (ps_ret (pe_and (pe_callB call_isi (by rfl) T.z_isinstance (by decide +kernel) (pa_cons (pv 0) (pa_cons (pe_bltn (by rfl) T.z_int (by decide +kernel) rfl) pa_nil))) (pe_and (pe_cmpR op_eq (pe_callB call_isi (by rfl) T.z_isinstance (by decide +kernel) (pa_cons (pv 0) (pa_cons (pe_bltn (by rfl) T.z_bool (by decide +kernel) rfl) pa_nil))) (pe_callB call_isi (by rfl) T.z_isinstance (by decide +kernel) (pa_cons (pv 1) (pa_cons (pe_bltn (by rfl) T.z_bool (by decide +kernel) rfl) pa_nil))) (nomark _)) (pe_one (pe_cmpR op_eq (pv 0) (pv 1) (nomark _))))))))), ?_⟩
    walk_at "gg"
    refine g_newT (by simp) fun l1 H1 n1 e1 h1 => ?_
    walk_at "gg"
    have hx1 := dp_ex e1 hx
    have hy1 := dp_ex e1 hy
    cases hx with
    | non =>
      cases hy
      refine g_isiT h1 ty_non (by decide +kernel : kitB "NoneType" "tuple" = some false) (by decide +kernel : kitB "NoneType" "list" = some false) ?_
      walk_at "gg"
      refine g_same rfl ?_
      walk_at "gg"
      refine g_isi ty_non (by decide +kernel : kitB "NoneType" "str" = some false) ?_
      walk_at "gg"
      refine g_isi ty_non (by decide +kernel : kitB "NoneType" "str" = some false) ?_
      walk_at "gg"
      exact k H1 e1
    | bl b =>
      cases hy
      refine g_isiT h1 ty_bl (by decide +kernel : kitB "bool" "tuple" = some false) (by decide +kernel : kitB "bool" "list" = some false) ?_
      walk_at "gg"
      refine g_isi ty_bl (by decide +kernel : kitB "bool" "str" = some false) ?_
      walk_at "gg"
      refine g_isi ty_bl (by decide +kernel : kitB "bool" "int" = some true) ?_
      walk_at "gg"
      refine g_isi ty_bl (by decide +kernel : kitB "bool" "bool" = some true) ?_
      walk_at "gg"
      refine g_isi ty_bl (by decide +kernel : kitB "bool" "bool" = some true) ?_
      walk_at "gg"
      rw [beq_self_eq_true b]
      exact k H1 e1
    | int i =>
      cases hy
      refine g_isiT h1 ty_int (by decide +kernel : kitB "int" "tuple" = some false) (by decide +kernel : kitB "int" "list" = some false) ?_
      walk_at "gg"
      refine g_isi ty_int (by decide +kernel : kitB "int" "str" = some false) ?_
      walk_at "gg"
      refine g_isi ty_int (by decide +kernel : kitB "int" "int" = some true) ?_
      walk_at "gg"
      refine g_isi ty_int (by decide +kernel : kitB "int" "bool" = some false) ?_
      walk_at "gg"
      refine g_isi ty_int (by decide +kernel : kitB "int" "bool" = some false) ?_
      walk_at "gg"
      rw [decide_eq_true (rfl : i = i)]
      exact k H1 e1
    | str b =>
      cases hy
      refine g_isiT h1 ty_str (by decide +kernel : kitB "str" "tuple" = some false) (by decide +kernel : kitB "str" "list" = some false) ?_
      walk_at "gg"
      refine g_isi ty_str (by decide +kernel : kitB "str" "str" = some true) ?_
      walk_at "gg"
      refine if_d (fun c => ?_) (fun c => absurd rfl c)
      walk_at "gg"
      refine g_isi ty_str (by decide +kernel : kitB "str" "str" = some true) ?_
      walk_at "gg"
      refine g_isi ty_str (by decide +kernel : kitB "str" "str" = some true) ?_
      walk_at "gg"
      exact k H1 e1
    | lst h1 h2 => cases n <;> cases hf
    | @tup a xs ds hs hd =>
      cases hy with
      | @tup b ys _ hs' hd' =>
      cases n with
      | zero => cases hf
      | succ n =>
      rw [fits_tuple, Bool.and_eq_true, List.all_eq_true, decide_eq_true_eq] at hf
      obtain ⟨hl, hf⟩ := hf
      have p1 := dpAll_pd hd
      have p2 := dpAll_pd hd'
      have m1 := Paired.length p1
      have m2 := Paired.length p2
      have z := Nat.le_refl ds.length
      refine g_isiT h1 (ty_tup (Evl.ex_t e1 hs')) (by decide +kernel : kitB "tuple" "tuple" = some true) (by decide +kernel : kitB "tuple" "list" = some false) ?_
      walk_at "gg"
      refine g_newT (by simp) fun l2 H2 n2 e2 h2 => ?_
      walk_at "gg"
      refine g_isiT h2 (ty_tup (Evl.ex_t e2 (Evl.ex_t e1 hs))) (by decide +kernel : kitB "tuple" "tuple" = some true) (by decide +kernel : kitB "tuple" "list" = some false) ?_
      have e02 := e1.trans e2
      walk_at "gg"
      refine g_isi (ty_tup (Evl.ex_t e02 hs)) (by decide +kernel : kitB "tuple" "list" = some false) ?_
      walk_at "gg"
      refine g_isi (ty_tup (Evl.ex_t e02 hs')) (by decide +kernel : kitB "tuple" "list" = some false) ?_
      walk_at "gg"
      refine g_lenT (Evl.ex_t e02 hs) ?_
      walk_at "gg"
      refine g_lenT (Evl.ex_t e02 hs') ?_
      walk_at "gg"
      refine if_nd (fun c => absurd (by rw [m1, m2]) c) (fun _ => ?_)
      walk_at "gg"
      refine g_lcRng1 ?_
      walk_at "gg"
      refine g_lenT (Evl.ex_t e02 hs') ?_
      walk_at "gg"
      refine g_lcR1 ?_ (by omega) (fun _ => false) (fun k => .int k) ?_ ?_
      · omega
      · rintro i H3 e3 i0 i1 R S hR hS
        walk_at "gg"
        refine ⟨rfl, ?_⟩
        walk_at "gg"
        have e03 := e02.trans e3
        have lt : i.toNat < ds.length := by omega
        obtain ⟨d, hd1, _⟩ : ∃ d, ds[i.toNat]? = some d ∧ True := ⟨_, List.getElem?_eq_getElem lt, trivial⟩
        have lx : i.toNat < xs.length := by omega
        have ly : i.toNat < ys.length := by omega
        obtain ⟨dx, hdx, qx⟩ := pd_get p1 (List.getElem?_eq_getElem lx)
        obtain ⟨dy, hdy, qy⟩ := pd_get p2 (List.getElem?_eq_getElem ly)
        rw [hd1] at hdx hdy
        cases hdx
        cases hdy
        refine g_ixT (Evl.ex_t e03 hs) (atI_of i0 (List.getElem?_eq_getElem lx)) ?_
        walk_at "gg"
        refine g_ixT (Evl.ex_t e03 hs') (atI_of i0 (List.getElem?_eq_getElem ly)) ?_
        walk_at "gg"
        refine ⟨_, _, d, rfl, dp_ex e03 qx, dp_ex e03 qy, hf d (List.mem_of_getElem? hd1), fun H4 e4 => ?_⟩
        walk_at "gg"
        exact hR rfl _ e4
      · intro D H3 n3 e3 h3
        walk_at "gg"
        refine g_newL (by simp) fun l4 H4 n4 e4 h4 => ?_
        refine g_eqNil (ns := []) (e4 _ _ (by rw [h3]; simp)) h4 ?_
        exact k H4 ((e02.trans e3).trans e4)
end

/-! ### the drawn zone's mathematics -/
def lastO : Int → List (Int × Int) → Int
  | b, [] => b
  | _, p :: r => lastO p.2 r
def lastE : Int → List (Int × Int) → Int
  | e, [] => e
  | _, p :: r => lastE (p.1 + 12) r
theorem okGo_app (p : Int × Int) : ∀ (ps : List (Int × Int)) (b e : Int), okGo b e (ps ++ [p]) = (okGo b e ps && okC (lastO b ps) (lastE e ps) p)
  | [], b, e => by
    show okGo b e [p] = (true && okC b e p)
    rw [okGo_cons, Bool.true_and]
    show (okC b e p && true) = _
    rw [Bool.and_true]
  | q :: r, b, e => by
    show okGo b e (q :: (r ++ [p])) = _
    rw [okGo_cons, okGo_cons, okGo_app p r, Bool.and_assoc]
    rfl
def kstep (b : Int) (f : Bool × Bool) (a : Int) : Bool × Bool := if a > b then (true, f.2) else (f.1, true)
theorem kindGo_app (p : Int × Int) : ∀ (ps : List (Int × Int)) (b : Int) (s r : Bool), kindGo b s r (ps ++ [p]) = kstep (lastO b ps) (kindGo b s r ps) p.2
  | [], b, s, r => rfl
  | q :: l, b, s, r => by
    show kindGo b s r (q :: (l ++ [p])) = _
    rw [kindGo_cons, kindGo_cons]
    split
    · exact kindGo_app p l _ _ _
    · exact kindGo_app p l _ _ _
theorem lastO_app (p : Int × Int) : ∀ (ps : List (Int × Int)) (b : Int), lastO b (ps ++ [p]) = p.2
  | [], _ => rfl
  | q :: r, b => lastO_app p r q.2
theorem lastE_app (p : Int × Int) : ∀ (ps : List (Int × Int)) (e : Int), lastE e (ps ++ [p]) = p.1 + 12
  | [], _ => rfl
  | q :: r, b => lastE_app p r (q.1 + 12)
/-- the flags behind i changes -/
def flagsOf (kind : Str) (i : Nat) : Bool × Bool := match i with
  | 0 => (false, false)
  | 1 => if kind = "repeats" then (false, true) else (true, false)
  | _ => if kind = "skips" then (true, false) else if kind = "repeats" then (false, true) else (true, true)
structure ZInv (kind : Str) (first : Int) (i : Nat) (ps : List (Int × Int)) (o at' : Int) : Prop where
  len : ps.length = i
  ok : okGo first (-1000) ps = true
  ho : lastO first ps = o
  he : lastE (-1000) ps ≤ at'
  a1 : -30 ≤ at'
  a2 : at' ≤ -22 + 32 * i
  o1 : -3 - 3 * i ≤ o
  o2 : o ≤ 3 + 3 * i
  fl : kindGo first false false ps = flagsOf kind i
/-- the sign of a change -/
structure Sgn (kind : Str) (i : Nat) (s : Int) : Prop where
  one : s = 1 ∨ s = -1
  sk : kind = "skips" → s = 1
  re : kind = "repeats" → s = -1
  b0 : kind ≠ "skips" → kind ≠ "repeats" → i = 0 → s = 1
  b1 : kind ≠ "skips" → kind ≠ "repeats" → i = 1 → s = -1
theorem ne_sr : ¬ (("skips" : Str) = "repeats") := by decide +kernel
theorem ne_rs : ¬ (("repeats" : Str) = "skips") := by decide +kernel
theorem ZInv.step {kind : Str} {first : Int} {i : Nat} {ps : List (Int × Int)} {o at' : Int} (h : ZInv kind first i ps o at') {st s g : Int} (i3 : i ≤ 3) (h1 : 1 ≤ st) (h2 : st ≤ 3) (hs : Sgn kind i s) (g0 : 0 ≤ g) (g1 : g ≤ 19) :
    ZInv kind first (i + 1) (ps ++ [(at', o + s * st)]) (o + s * st) (at' + 12 + g) := by
  have a1 := h.a1
  have a2 := h.a2
  have o1 := h.o1
  have o2 := h.o2
  have e := h.he
  have hm : s * st = st ∨ s * st = -st := by
    rcases hs.one with q | q <;> rw [q] <;> omega
  refine ⟨by rw [List.length_append, h.len] <;> rfl, ?_, lastO_app _ _ _, ?_, by omega, by omega, by omega, by omega, ?_⟩
  · rw [okGo_app, h.ok, h.ho]
    unfold okC
    simp only [Bool.true_and, Bool.and_eq_true, decide_eq_true_eq]
    omega
  · rw [lastE_app]
    show at' + 12 ≤ _
    omega
  · rw [kindGo_app, h.ho, h.fl]
    show kstep o (flagsOf kind i) (o + s * st) = flagsOf kind (i + 1)
    unfold kstep
    by_cases k1 : kind = "skips"
    · have q := hs.sk k1
      rw [if_pos (by rw [q]; omega)]
      subst k1
      match i with
      | 0 => unfold flagsOf; simp [ne_sr]
      | 1 => unfold flagsOf; simp [ne_sr]
      | i + 2 => unfold flagsOf; simp
    · by_cases k2 : kind = "repeats"
      · have q := hs.re k2
        rw [if_neg (by rw [q]; omega)]
        subst k2
        match i with
        | 0 => unfold flagsOf; simp
        | 1 => unfold flagsOf; simp [ne_rs]
        | i + 2 => unfold flagsOf; simp [ne_rs]
      · match i with
        | 0 =>
          have q := hs.b0 k1 k2 rfl
          rw [if_pos (by rw [q]; omega)]
          unfold flagsOf
          simp [k2]
        | 1 =>
          have q := hs.b1 k1 k2 rfl
          rw [if_neg (by rw [q]; omega)]
          unfold flagsOf
          simp [k1, k2]
        | i + 2 =>
          unfold flagsOf
          simp [k1, k2]
structure GoodZ (kind : Str) (z : Zone) : Prop where
  ok : okZ z = true
  kind : kindOf z = kind
  few : z.2.length ≤ 4
theorem ZInv.good {kind : Str} {first : Int} {i : Nat} {ps : List (Int × Int)} {o at' : Int} (h : ZInv kind first i ps o at') (f1 : -3 ≤ first) (f2 : first ≤ 3) (i4 : i ≤ 4)
    (hk : (kind = "fixed" ∧ i = 0) ∨ ((kind = "skips" ∨ kind = "repeats") ∧ 1 ≤ i) ∨ (kind = "both" ∧ 2 ≤ i)) : GoodZ kind (first, ps) := by
  refine ⟨?_, ?_, by show ps.length ≤ 4; rw [h.len]; exact i4⟩
  · unfold okZ
    simp only [Bool.and_eq_true, decide_eq_true_eq]
    exact ⟨by omega, by rw [h.len]; omega, h.ok⟩
  · show (match kindGo first false false ps with | (true, true) => ("both" : Str) | (true, false) => "skips" | (false, true) => "repeats" | (false, false) => "fixed") = kind
    rw [h.fl]
    have nb1 : ¬ (("both" : Str) = "skips") := by decide +kernel
    have nb2 : ¬ (("both" : Str) = "repeats") := by decide +kernel
    rcases hk with ⟨rfl, rfl⟩ | ⟨rfl | rfl, hi⟩ | ⟨rfl, hi⟩
    · rfl
    · match i with
      | 1 => unfold flagsOf; simp [ne_sr]
      | i + 2 => unfold flagsOf; simp
    · match i with
      | 1 => unfold flagsOf; simp
      | i + 2 => unfold flagsOf; simp [ne_rs]
    · match i with
      | i + 2 => unfold flagsOf; simp [nb1, nb2]
/-- what the written dict of signs gives -/
def sgnV (kind : Str) (d : Int) : V := (valV (mergeK [] [((Sum.inr "skips" : Key), V.int 1), (Sum.inr "repeats", V.int (0 - 1))]) (Sum.inr kind : Key)).getD (.int d)
theorem sgnV_ok {kind : Str} {i : Nat} {d : Int} (h1 : d = 1 ∨ d = -1) (h2 : i = 0 → d = 1) (h3 : i = 1 → d = -1) : ∃ s, sgnV kind d = .int s ∧ Sgn kind i s := by
  have e : mergeK [] [((Sum.inr "skips" : Key), V.int 1), (Sum.inr "repeats", V.int (0 - 1))] = [((Sum.inr "skips" : Key), V.int 1), (Sum.inr "repeats", V.int (0 - 1))] := by decide +kernel
  unfold sgnV
  rw [e]
  by_cases k1 : kind = "skips"
  · subst k1
    rw [valV_pos rfl]
    exact ⟨1, rfl, .inl rfl, fun _ => rfl, fun h => absurd h ne_sr, fun h => absurd rfl h, fun h => absurd rfl h⟩
  · rw [valV_neg (fun h => k1 (Sum.inr.inj h).symm)]
    by_cases k2 : kind = "repeats"
    · subst k2
      rw [valV_pos rfl]
      exact ⟨-1, rfl, .inr rfl, fun h => absurd h k1, fun _ => rfl, fun _ h => absurd rfl h, fun _ h => absurd rfl h⟩
    · rw [valV_neg (fun h => k2 (Sum.inr.inj h).symm), valV_nil]
      exact ⟨d, rfl, h1, fun h => absurd h k1, fun h => absurd h k2, fun _ _ => h2, fun _ _ => h3⟩
/-! ### promises -/
def sp_law_zone (K : PySem.W.Frag) : Sp := fun vs H Q _ => ∃ (ρ : Rw) (kind : Str), vs = [.ref ρ.1, .str kind] ∧ Row K H ρ ∧ (kind = "fixed" ∨ kind = "skips" ∨ kind = "repeats" ∨ kind = "both") ∧
  ∀ zv z H', Fr ρ.1 H H' → Row K H' ρ → ZV K H' zv z → GoodZ kind z → Q zv H'
section
variable {P : Program} {w : World} {K : PySem.W.Frag} {mg : Str → Option Value} {base : Heap}
end

def sp_law_spot (K : PySem.W.Frag) : Sp := fun vs H Q _ => ∃ (ρ : Rw) (zv : V) (z : Zone), vs = [.ref ρ.1, zv] ∧ Row K H ρ ∧ ZV K H zv z ∧ OkZ z ∧
  ∀ v H', -2000 ≤ v → v ≤ 2000 → Fr ρ.1 H H' → Row K H' ρ → Q (.int v) H'
def sp_law (K : PySem.W.Frag) : Sp := fun vs H Q _ => ∃ (a : Addr) (ns : List Int), vs = [.ref a] ∧ SqL K H a (ns.map V.int) ∧ ns.length ≤ 63 ∧ ∀ H', Q (.bl true) H'
theorem Row.new {K : PySem.W.Frag} {H H' : Hp} {a r : Addr} {ns : List Int} {s : Int} (h : SqL K H a (ns.map V.int)) (n : H r = none) (e : Ex H H') (q : H' r = some (.lst [.ref a, .int 0, .int s, .int 0])) (h0 : 0 ≤ s) (h1 : s < 2 ^ 40) :
    Row K H' (r, a, ns) := by
  refine ⟨0, s, 0, q, fun G f => ?_, Int.le_refl _, h0, h1⟩
  rcases h with (h | ⟨o, h⟩) | h
  · exact .inl (.inl (f a _ (ne_of_none h n) (e a _ h)))
  · exact .inl (.inr ⟨o, f a _ (ne_of_none h n) (e a _ h)⟩)
  · exact .inr h
section
variable {P : Program} {w : World} {K : PySem.W.Frag} {mg : Str → Option Value} {base : Heap}
end
/-! ### offsets near one another -/
theorem offGo_before {t : Int} : ∀ {b e : Int} {cs : List (Int × Int)}, okGo b e cs = true → t < e → offGo t b cs = b
  | _, _, [], _, _ => rfl
  | b, e, p :: r, h, q => by
    have := okGo_after h p (by simp)
    unfold offGo
    rw [if_pos (by omega)]
theorem offGo_cons (t b : Int) (p : Int × Int) (r : List (Int × Int)) : offGo t b (p :: r) = if p.1 > t then b else offGo t p.2 r := rfl
/-- at most one change in twelve hours -/
theorem off_near {t u : Int} (h1 : t ≤ u) (h2 : u ≤ t + 12) : ∀ {b e : Int} {cs : List (Int × Int)}, okGo b e cs = true →
    ∃ s, t < s ∧ (∀ x, t ≤ x → x < s → offGo x b cs = offGo t b cs) ∧ (∀ x, s ≤ x → x ≤ u → offGo x b cs = offGo u b cs) ∧
      (s ≤ u → offGo u b cs ≠ offGo t b cs ∧ offGo u b cs - offGo t b cs ≤ 3 ∧ offGo t b cs - offGo u b cs ≤ 3)
  | _, _, [], _ => ⟨u + 1, by omega, fun _ _ _ => rfl, fun x _ _ => rfl, fun h => by omega⟩
  | b, e, p :: r, h => by
    have h0 := h
    rw [okGo_cons, Bool.and_eq_true] at h
    have hc := h.1
    unfold okC at hc
    simp only [Bool.and_eq_true, decide_eq_true_eq] at hc
    by_cases c1 : u < p.1
    · refine ⟨u + 1, by omega, fun x x1 x2 => ?_, fun x x1 x2 => by omega, fun h => by omega⟩
      rw [offGo_cons, offGo_cons, if_pos (by omega), if_pos (by omega)]
    · by_cases c2 : p.1 ≤ t
      · obtain ⟨s, s1, s2, s3, s4⟩ := off_near h1 h2 h.2
        refine ⟨s, s1, fun x x1 x2 => ?_, fun x x1 x2 => ?_, fun hs => ?_⟩
        · rw [offGo_cons, offGo_cons, if_neg (by omega), if_neg (by omega)]
          exact s2 x x1 x2
        · rw [offGo_cons, offGo_cons, if_neg (by omega), if_neg (by omega)]
          exact s3 x x1 x2
        · rw [offGo_cons, offGo_cons, if_neg (by omega), if_neg (by omega)]
          exact s4 hs
      · have e1 : ∀ x, t ≤ x → x < p.1 → offGo x b (p :: r) = b := fun x x1 x2 => by rw [offGo_cons, if_pos (by omega)]
        have e2 : ∀ x, p.1 ≤ x → x ≤ u → offGo x b (p :: r) = p.2 := fun x x1 x2 => by
          rw [offGo_cons, if_neg (by omega)]
          exact offGo_before h.2 (by omega)
        refine ⟨p.1, by omega, fun x x1 x2 => ?_, fun x x1 x2 => ?_, fun hs => ?_⟩
        · rw [e1 x x1 x2, e1 t (by omega) (by omega)]
        · rw [e2 x x1 x2, e2 u (by omega) (by omega)]
        · rw [e2 u (by omega) (by omega), e1 t (by omega) (by omega)]
          omega
section
variable {z : Zone} (h : OkZ z)
include h
theorem OkZ.near {t u : Int} (h1 : t ≤ u) (h2 : u ≤ t + 12) : ∃ s, t < s ∧ (∀ x, t ≤ x → x < s → off z x = off z t) ∧ (∀ x, s ≤ x → x ≤ u → off z x = off z u) ∧
      (s ≤ u → off z u ≠ off z t ∧ off z u - off z t ≤ 3 ∧ off z t - off z u ≤ 3) := off_near h1 h2 h.go
theorem OkZ.near3 {t u : Int} (h1 : t ≤ u) (h2 : u ≤ t + 12) : off z u - off z t ≤ 3 ∧ off z t - off z u ≤ 3 := by
  obtain ⟨s, s1, s2, s3, s4⟩ := h.near h1 h2
  by_cases c : s ≤ u
  · exact (s4 c).2
  · rw [s2 u h1 (by omega)]
    omega
theorem OkZ.far {t : Int} (n : Nat) : ∀ u : Int, t ≤ u → u ≤ t + 12 * n → off z u - off z t ≤ 3 * n ∧ off z t - off z u ≤ 3 * n := by
  induction n with
  | zero =>
    intro u h1 h2
    have e : u = t := by omega
    subst e
    omega
  | succ n ih =>
    intro u h1 h2
    by_cases c : u ≤ t + 12
    · have := h.near3 h1 c
      omega
    · have := ih (u - 12) (by omega) (by omega)
      have := h.near3 (t := u - 12) (u := u) (by omega) (by omega)
      omega
/-- a reading that is not greater later comes within three hours -/
theorem OkZ.back {t u : Int} (h1 : t < u) (h2 : u + off z u ≤ t + off z t) : u ≤ t + 3 := by
  have q := h.far (t := t) ((u - t + 11) / 12).toNat u (by omega) (by omega)
  omega
theorem OkZ.two {t u v : Int} (h1 : t < u) (h2 : u < v) (e1 : u + off z u = t + off z t) (e2 : v + off z v = t + off z t) : False := by
  have b := h.back (t := t) (u := v) (by omega) (by omega)
  obtain ⟨s, s1, s2, s3, s4⟩ := h.near (t := t) (u := v) (by omega) (by omega)
  by_cases c : u < s
  · have := s2 u (by omega) c
    omega
  · have := s3 u (by omega) (by omega)
    omega
theorem OkZ.le2 (rd : Int) : (insts z rd).length ≤ 2 := by
  have m := fun k => (insts_mem h (t := rd) (k := k)).1
  have r := insts_rise z rd
  match e : insts z rd with
  | [] => simp
  | [a] => simp
  | [a, b] => simp
  | a :: b :: c :: l =>
    rw [e] at m r
    simp only [List.pairwise_cons] at r
    have h1 := r.1 b (by simp)
    have h2 := r.2.1 c (by simp)
    have e1 := m a (by simp)
    have e2 := m b (by simp)
    have e3 := m c (by simp)
    exact (h.two h1 h2 (by omega) (by omega)).elim
end
/-! ### libraries, times -/
inductive Gap where
  | keep | refuse | shift
  deriving DecidableEq
inductive Fold where
  | both | first | refuse | second
  deriving DecidableEq
structure Way where
  ws : Bool
  wo : Bool
  gap : Gap
  fold : Fold
  deriving DecidableEq
def sumS (b : Bool) : Str := if b then "wall" else "elapsed"
def gapS : Gap → Str
  | .keep => "keep"
  | .refuse => "refuse"
  | .shift => "shift"
def foldS : Fold → Str
  | .both => "both"
  | .first => "first"
  | .refuse => "refuse"
  | .second => "second"
theorem sum_wall (b : Bool) : decide (sumS b = "wall") = b := by cases b <;> decide +kernel
theorem sum_elapsed (b : Bool) : decide (sumS b = "elapsed") = !b := by cases b <;> decide +kernel
theorem gap_keep (g : Gap) : decide (gapS g = "keep") = decide (g = .keep) := by cases g <;> decide +kernel
theorem gap_refuse (g : Gap) : decide (gapS g = "refuse") = decide (g = .refuse) := by cases g <;> decide +kernel
theorem gap_shift (g : Gap) : decide (gapS g = "shift") = decide (g = .shift) := by cases g <;> decide +kernel
theorem fold_both (g : Fold) : decide (foldS g = "both") = decide (g = .both) := by cases g <;> decide +kernel
theorem fold_first (g : Fold) : decide (foldS g = "first") = decide (g = .first) := by cases g <;> decide +kernel
theorem fold_refuse (g : Fold) : decide (foldS g = "refuse") = decide (g = .refuse) := by cases g <;> decide +kernel
theorem fold_second (g : Fold) : decide (foldS g = "second") = decide (g = .second) := by cases g <;> decide +kernel
def maxB (z : Zone) (rd : Int) : Int := ((irange (rd - 16) 33).filter fun k => decide (k + off z k < rd)).getLast?.getD 0
def before (z : Zone) (rd : Int) : Int := off z (maxB z rd)
def times (w : Way) (z : Zone) (rd : Int) : List Tm :=
  if (insts z rd).length = 2 then (match w.fold with | .both => [(rd, 0), (rd, 1)] | .refuse => [] | _ => [(rd, 0)])
  else if (insts z rd).length = 1 ∨ w.gap = .keep then [(rd, 0)] else []
def inst (w : Way) (z : Zone) (t : Tm) : Int :=
  if insts z t.1 = [] then t.1 - before z t.1
  else if w.fold = .second then (insts z t.1).getLast?.getD 0 else ((insts z t.1)[t.2.toNat]?).getD 0
def at_ (w : Way) (z : Zone) (T : Int) : Option Tm :=
  if (insts z (T + off z T)).length = 2 ∧ w.fold = .refuse then none
  else some (T + off z T, if w.fold = .both ∧ T ≠ (insts z (T + off z T)).head?.getD 0 then 1 else 0)
def read_ (w : Way) (z : Zone) (rd : Int) : Option Tm :=
  if insts z rd = [] then (match w.gap with | .shift => at_ w z (rd - before z rd) | .refuse => none | .keep => some (rd, 0))
  else if w.fold = .refuse ∧ (insts z rd).length = 2 then none else some (rd, 0)
def addT (w : Way) (z : Zone) (o : Option Tm) (d : Int) : Option Tm := match o with
  | none => none
  | some t => if w.ws then read_ w z (t.1 + d) else at_ w z (inst w z t + d)
def less_ (w : Way) (z : Zone) (a b : Tm) : Int := if w.ws then a.1 - b.1 else inst w z a - inst w z b
def key (w : Way) (z : Zone) (t : Tm) : Int := if w.wo then t.1 else inst w z t
def cmp (a b : Int) : Int := if a < b then -1 else if a = b then 0 else 1
def order (w : Way) (z : Zone) (a b : Option Tm) : Option Int := match a, b with
  | some a, some b => some (cmp (key w z a) (key w z b))
  | _, _ => none
/-- a time of the library in the zone -/
def IsTm (w : Way) (z : Zone) (t : Tm) : Prop := t ∈ times w z t.1
section
variable {w : Way} {z : Zone} (h : OkZ z)
include h
theorem maxB_spec (rd : Int) : rd - 16 ≤ maxB z rd ∧ maxB z rd ≤ rd + 15 ∧ maxB z rd + off z (maxB z rd) < rd ∧ rd ≤ maxB z rd + 1 + off z (maxB z rd + 1) ∧
    (∀ k, rd - 16 ≤ k → k ≤ rd + 16 → k + off z k < rd → k ≤ maxB z rd) := by
  generalize hl : (irange (rd - 16) 33).filter (fun k => decide (k + off z k < rd)) = l
  have mem : ∀ k, k ∈ l ↔ (rd - 16 ≤ k ∧ k < rd + 17) ∧ k + off z k < rd := fun k => by
    rw [← hl, List.mem_filter, irange_mem, decide_eq_true_eq]
    constructor <;> intro q <;> exact ⟨by omega, q.2⟩
  have ris : l.Pairwise (· < ·) := by rw [← hl]; exact (irange_rise _ _).filter _
  have o1 := h.offs (rd - 16)
  have o2 := h.offs (rd + 16)
  have first : rd - 16 ∈ l := (mem _).2 ⟨by omega, by omega⟩
  cases e : l.getLast? with
  | none => rw [List.getLast?_eq_none_iff] at e; rw [e] at first; cases first
  | some m =>
    have hm : maxB z rd = m := by unfold maxB; rw [hl, e] <;> rfl
    obtain ⟨ys, ey⟩ := List.getLast?_eq_some_iff.mp e
    have up : ∀ k ∈ l, k ≤ m := fun k hk => by
      rw [ey] at hk ris
      rw [List.pairwise_append] at ris
      rcases List.mem_append.mp hk with q | q
      · have := ris.2.2 k q m (by simp)
        omega
      · have := List.mem_singleton.mp q
        omega
    have mm := (mem m).1 (by rw [ey]; simp)
    rw [hm]
    refine ⟨by omega, ?_, mm.2, ?_, fun k k1 k2 k3 => up k ((mem k).2 ⟨by omega, k3⟩)⟩
    · by_cases c : m = rd + 16
      · rw [c] at mm
        omega
      · omega
    · by_cases c : m + 1 + off z (m + 1) < rd
      · by_cases c2 : m + 1 ≤ rd + 16
        · have := up (m + 1) ((mem (m + 1)).2 ⟨by omega, c⟩)
          omega
        · have e : m = rd + 16 := by omega
          rw [e] at mm
          omega
      · omega
/-- in a gap: the change that skips the reading -/
structure InGap (z : Zone) (rd s a b : Int) : Prop where
  lt : b < a
  le : a ≤ b + 3
  bef : ∀ x, s - 12 ≤ x → x < s → off z x = b
  aft : ∀ x, s ≤ x → x ≤ s + 11 → off z x = a
  lo : s + b ≤ rd
  hi : rd < s + a
  bf : before z rd = b
theorem OkZ.gap {rd : Int} (e : insts z rd = []) : ∃ s a b, InGap z rd s a b := by
  obtain ⟨m1, m2, m3, m4, m5⟩ := maxB_spec h rd
  generalize hm : maxB z rd = m at *
  have no : ∀ k, k + off z k ≠ rd := fun k q => by
    have := (insts_mem h (t := rd) (k := k)).2 q
    rw [e] at this
    cases this
  have n1 := no (m + 1)
  have q := h.near3 (t := m) (u := m + 1) (by omega) (by omega)
  refine ⟨m + 1, off z (m + 1), off z m, by omega, by omega, ?_, ?_, by omega, by omega, by unfold before; rw [hm]⟩
  · intro x x1 x2
    obtain ⟨s, s1, s2, s3, s4⟩ := h.near (t := x) (u := m + 1) (by omega) (by omega)
    by_cases c : m < s
    · rw [s2 m (by omega) c]
    · have := s3 m (by omega) (by omega)
      omega
  · intro x x1 x2
    obtain ⟨s, s1, s2, s3, s4⟩ := h.near (t := m) (u := x) (by omega) (by omega)
    by_cases c : m + 1 < s
    · have := s2 (m + 1) (by omega) c
      omega
    · rw [s3 (m + 1) (by omega) (by omega)]
theorem insts_self (T : Int) : T ∈ insts z (T + off z T) := (insts_mem h).2 rfl
theorem insts_one {rd T : Int} (e : insts z rd = [T]) : T + off z T = rd := (insts_mem h).1 (by rw [e]; simp)
theorem at_valid {T : Int} {t : Tm} (e : at_ w z T = some t) : IsTm w z t ∧ t.1 = T + off z T := by
  unfold at_ at e
  have s := insts_self h T
  have l2 := h.le2 (T + off z T)
  split at e
  · cases e
  next c =>
    cases e
    refine ⟨?_, rfl⟩
    unfold IsTm times
    match q : insts z (T + off z T) with
    | [] => rw [q] at s; cases s
    | [a] =>
      rw [q] at s
      have : T = a := by simpa using s
      subst this
      simp
    | [a, b] =>
      simp only [List.length_cons, List.length_nil, if_true]
      rw [q] at c
      cases hf : w.fold with
      | both =>
        simp only [List.head?_cons, Option.getD_some]
        split <;> simp
      | first => simp
      | refuse => exact (c ⟨rfl, hf⟩).elim
      | second => simp
    | a :: b :: c :: l => rw [q] at l2; simp at l2
theorem read_valid {rd : Int} {t : Tm} (e : read_ w z rd = some t) : IsTm w z t := by
  unfold read_ at e
  have l2 := h.le2 rd
  split at e
  next c =>
    cases hg : w.gap with
    | shift =>
      rw [hg] at e
      exact (at_valid h e).1
    | refuse => rw [hg] at e; cases e
    | keep =>
      rw [hg] at e
      cases e
      unfold IsTm times
      show (rd, 0) ∈ _
      rw [c, hg]
      simp
  next c =>
    split at e
    · cases e
    next c2 =>
      cases e
      unfold IsTm times
      show (rd, 0) ∈ (if (insts z rd).length = 2 then _ else _)
      match q : insts z rd with
      | [] => exact (c q).elim
      | [a] => simp
      | [a, b] =>
        rw [q] at c2
        simp only [List.length_cons, List.length_nil, if_true]
        cases hf : w.fold with
        | both => simp
        | first => simp
        | refuse => exact (c2 ⟨hf, rfl⟩).elim
        | second => simp
      | a :: b :: c :: l => rw [q] at l2; simp at l2
theorem add_valid {o : Option Tm} {d : Int} {t : Tm} (e : addT w z o d = some t) : IsTm w z t := by
  cases o with
  | none => cases e
  | some u =>
    unfold addT at e
    simp only at e
    split at e
    · exact read_valid h e
    · exact (at_valid h e).1
end
/-- the passes of a time -/
theorem IsTm.pass {w : Way} {z : Zone} {t : Tm} (q : IsTm w z t) : t.2 = 0 ∨ (t.2 = 1 ∧ w.fold = .both ∧ (insts z t.1).length = 2) := by
  unfold IsTm times at q
  obtain ⟨r, p⟩ := t
  simp only at q ⊢
  split at q
  next c =>
    cases hf : w.fold <;> rw [hf] at q <;> simp at q
    · rcases q with q | q
      · exact .inl q
      · exact .inr ⟨q, rfl, c⟩
    · exact .inl q
    · exact .inl q
  · split at q
    · simp at q
      exact .inl q
    · cases q
theorem inst_near {w : Way} {z : Zone} (h : OkZ z) {t : Tm} (q : IsTm w z t) : t.1 - 20 ≤ inst w z t ∧ inst w z t ≤ t.1 + 20 := by
  unfold inst
  split
  next c =>
    unfold before
    have := h.offs (maxB z t.1)
    omega
  next c =>
    have near : ∀ k ∈ insts z t.1, t.1 - 20 ≤ k ∧ k ≤ t.1 + 20 := fun k hk => by
      have := (insts_mem h).1 hk
      have := h.offs k
      omega
    split
    next c2 =>
      cases e : (insts z t.1).getLast? with
      | none => rw [List.getLast?_eq_none_iff] at e; exact (c e).elim
      | some m => exact near m (List.mem_of_getLast? e)
    next c2 =>
      have lt : t.2.toNat < (insts z t.1).length := by
        have c3 : 0 < (insts z t.1).length := List.length_pos_iff.mpr c
        rcases q.pass with p | p
        · rw [p]; exact c3
        · rw [p.1, p.2.2]; decide
      rw [List.getElem?_eq_getElem lt]
      exact near _ (List.getElem_mem lt)
/-- round a change -/
theorem OkZ.chart {z : Zone} (h : OkZ z) {s : Int} (ne : off z s ≠ off z (s - 1)) :
    (∀ x, s - 12 ≤ x → x < s → off z x = off z (s - 1)) ∧ (∀ x, s ≤ x → x ≤ s + 11 → off z x = off z s) ∧ off z s - off z (s - 1) ≤ 3 ∧ off z (s - 1) - off z s ≤ 3 := by
  refine ⟨fun x x1 x2 => ?_, fun x x1 x2 => ?_, ?_⟩
  · obtain ⟨r, r1, r2, r3, r4⟩ := h.near (t := x) (u := s) (by omega) (by omega)
    by_cases c : s - 1 < r
    · rw [r2 (s - 1) (by omega) c]
    · have := r3 (s - 1) (by omega) (by omega)
      omega
  · obtain ⟨r, r1, r2, r3, r4⟩ := h.near (t := s - 1) (u := x) (by omega) (by omega)
    by_cases c : s < r
    · have := r2 s (by omega) c
      omega
    · rw [r3 s (by omega) (by omega)]
  · have := h.near3 (t := s - 1) (u := s) (by omega) (by omega)
    omega
/-- the one instant of a reading -/
theorem OkZ.one {z : Zone} (h : OkZ z) {rd T : Int} (e : T + off z T = rd) (no : ∀ x, T - 3 ≤ x → x ≤ T + 3 → x ≠ T → x + off z x ≠ rd) : insts z rd = [T] := by
  refine rise_ext (insts_rise z rd) (by simp) fun k => ?_
  rw [insts_mem h, List.mem_singleton]
  constructor
  · intro q
    by_cases c : k = T
    · exact c
    · rcases Int.lt_or_gt_of_ne c with c1 | c1
      · have := h.back (t := k) (u := T) c1 (by omega)
        exact (no k (by omega) (by omega) c q).elim
      · have := h.back (t := T) (u := k) c1 (by omega)
        exact (no k (by omega) (by omega) c q).elim
  · intro q
    rw [q]
    exact e
/-- below a gap or a fold of a change -/
theorem OkZ.below {z : Zone} (h : OkZ z) {s : Int} (ne : off z s ≠ off z (s - 1)) : ∃ T, insts z (s - 1 + (if off z s < off z (s - 1) then off z s else off z (s - 1))) = [T] := by
  obtain ⟨c1, c2, c3, c4⟩ := h.chart ne
  split
  next c =>
    refine ⟨s - 1 + off z s - off z (s - 1), h.one ?_ fun x x1 x2 x3 x4 => ?_⟩
    · have := c1 (s - 1 + off z s - off z (s - 1)) (by omega) (by omega)
      omega
    · by_cases d : x < s
      · have := c1 x (by omega) d
        omega
      · have := c2 x (by omega) (by omega)
        omega
  next c =>
    refine ⟨s - 1, h.one rfl fun x x1 x2 x3 x4 => ?_⟩
    by_cases d : x < s
    · have := c1 x (by omega) d
      omega
    · have := c2 x (by omega) (by omega)
      omega
theorem OkZ.pair {z : Zone} (h : OkZ z) {rd a b : Int} (e : insts z rd = [a, b]) : a < b ∧ a + off z a = rd ∧ b + off z b = rd ∧ b ≤ a + 3 := by
  have r := insts_rise z rd
  have m := fun k => insts_mem h (t := rd) (k := k)
  rw [e] at r m
  simp only [List.pairwise_cons] at r
  have h1 := r.1 b (by simp)
  have e1 := (m a).1 (by simp)
  have e2 := (m b).1 (by simp)
  exact ⟨h1, e1, e2, h.back h1 (by omega)⟩
/-- of two instants with one reading one change lies between -/
theorem OkZ.fold {z : Zone} (h : OkZ z) {rd a b : Int} (e : insts z rd = [a, b]) : ∃ s, a < s ∧ s ≤ b ∧ off z s < off z (s - 1) ∧ off z a = off z (s - 1) ∧ off z b = off z s := by
  obtain ⟨p1, p2, p3, p4⟩ := h.pair e
  obtain ⟨s, s1, s2, s3, s4⟩ := h.near (t := a) (u := b) (by omega) (by omega)
  have c : s ≤ b := by
    by_cases c : s ≤ b
    · exact c
    · have := s2 b (by omega) (by omega)
      omega
  have f1 := s2 (s - 1) (by omega) (by omega)
  have f2 := s3 s (by omega) c
  exact ⟨s, s1, c, by omega, f1.symm, f2.symm⟩
theorem times_one {w : Way} {z : Zone} {rd T : Int} (e : insts z rd = [T]) : times w z rd = [(rd, 0)] := by
  unfold times
  rw [e]
  simp
theorem times_some {w : Way} {z : Zone} (h : OkZ z) (rd : Int) : ∃ i : Nat, i ≤ 8 ∧ times w z (rd - i) ≠ [] := by
  have fin : ∀ s, off z s ≠ off z (s - 1) → 0 ≤ rd - (s - 1 + (if off z s < off z (s - 1) then off z s else off z (s - 1))) → rd - (s - 1 + (if off z s < off z (s - 1) then off z s else off z (s - 1))) ≤ 8 → ∃ i : Nat, i ≤ 8 ∧ times w z (rd - i) ≠ [] := by
    intro s ne b1 b2
    obtain ⟨T, e⟩ := h.below ne
    refine ⟨(rd - (s - 1 + (if off z s < off z (s - 1) then off z s else off z (s - 1)))).toNat, by omega, ?_⟩
    rw [show rd - ((rd - (s - 1 + (if off z s < off z (s - 1) then off z s else off z (s - 1)))).toNat : Int) = s - 1 + (if off z s < off z (s - 1) then off z s else off z (s - 1)) by omega, times_one e]
    exact List.cons_ne_nil _ _
  have l2 := h.le2 rd
  match e : insts z rd with
  | [] =>
    obtain ⟨s, a, b, G⟩ := h.gap e
    have f1 := G.bef (s - 1) (by omega) (by omega)
    have f2 := G.aft s (by omega) (by omega)
    have := G.lt
    have := G.le
    have := G.lo
    have := G.hi
    refine fin s (by omega) ?_ ?_ <;> rw [if_neg (by omega)] <;> omega
  | [a] => exact ⟨0, by omega, by rw [show rd - ((0 : Nat) : Int) = rd by omega, times_one e]; exact List.cons_ne_nil _ _⟩
  | [a, b] =>
    obtain ⟨p1, p2, p3, p4⟩ := h.pair e
    obtain ⟨s, s1, s2, s3, s4, s5⟩ := h.fold e
    obtain ⟨c1, c2, c3, c4⟩ := h.chart (s := s) (by omega)
    refine fin s (by omega) ?_ ?_ <;> rw [if_pos s3] <;> omega
  | a :: b :: c :: l => rw [e] at l2; simp at l2
theorem times_rd {w : Way} {z : Zone} {rd : Int} {t : Tm} (h : t ∈ times w z rd) : t.1 = rd := by
  unfold times at h
  split at h
  · cases hf : w.fold <;> rw [hf] at h <;> simp at h
    · rcases h with h | h <;> rw [h]
    · rw [h]
    · rw [h]
  · split at h
    · simp at h
      rw [h]
    · cases h

def WayV (K : PySem.W.Frag) (H : Hp) (v : V) (w : Way) : Prop := ∃ a, v = .ref a ∧ SqT K H a [.str (sumS w.ws), .str (sumS w.wo), .str (gapS w.gap), .str (foldS w.fold)]
theorem WayV.tr {K : PySem.W.Frag} {H H' : Hp} {v : V} {w : Way} (e : TrT K H H') (h : WayV K H v w) : WayV K H' v w := by
  obtain ⟨a, q, h⟩ := h
  exact ⟨a, q, e _ _ h⟩
/-- an int far from the machine's edges -/
def Sm (x : Int) : Prop := -100000000 ≤ x ∧ x ≤ 100000000
def Sn (x : Int) : Prop := -90000000 ≤ x ∧ x ≤ 90000000
theorem insts_last {z : Zone} {t : Int} (c : insts z t ≠ []) : (insts z t).getLast? = some ((insts z t).getLast?.getD 0) := by
  cases e : (insts z t).getLast? with
  | none => rw [List.getLast?_eq_none_iff] at e; exact (c e).elim
  | some m => rfl
theorem merge2 {k1 k2 : Key} {a b : V} (h : k1 ≠ k2) : mergeK [] [(k1, a), (k2, b)] = [(k1, a), (k2, b)] := by
  unfold mergeK
  simp [putK, h, h.symm]
theorem val2 {x y k : Str} {a b : V} : valV [((Sum.inr x : Key), a), (Sum.inr y, b)] (Sum.inr k : Key) = if x = k then some a else if y = k then some b else none := by
  by_cases h1 : x = k
  · rw [if_pos h1, valV_pos (by rw [h1])]
  · rw [if_neg h1, valV_neg (fun h => h1 (Sum.inr.inj h))]
    by_cases h2 : y = k
    · rw [if_pos h2, valV_pos (by rw [h2])]
    · rw [if_neg h2, valV_neg (fun h => h2 (Sum.inr.inj h)), valV_nil]
theorem val_fold {f : Fold} {a b : V} : valV [((Sum.inr ("both" : Str) : Key), a), (Sum.inr ("refuse" : Str), b)] (Sum.inr (foldS f) : Key) = (match f with | .both => some a | .refuse => some b | _ => none) := by
  rw [val2]
  cases f
  · exact if_pos rfl
  · exact (if_neg (by decide +kernel)).trans (if_neg (by decide +kernel))
  · exact (if_neg (by decide +kernel)).trans (if_pos rfl)
  · exact (if_neg (by decide +kernel)).trans (if_neg (by decide +kernel))
/-! ### promises -/
def sp_law_library (K : PySem.W.Frag) : Sp := fun vs H Q _ => ∃ ρ : Rw, vs = [.ref ρ.1] ∧ Row K H ρ ∧ ∀ v w H', Fr ρ.1 H H' → Row K H' ρ → WayV K H' v w → Q v H'
def sp_law_before (K : PySem.W.Frag) : Sp := fun vs H Q _ => ∃ (zv : V) (z : Zone) (t : Int), vs = [zv, .int t] ∧ ZV K H zv z ∧ OkZ z ∧ Sm t ∧ ∀ H', Ex H H' → Q (.int (before z t)) H'
def sp_law_times (K : PySem.W.Frag) : Sp := fun vs H Q _ => ∃ (wv zv : V) (w : Way) (z : Zone) (t : Int), vs = [wv, zv, .int t] ∧ WayV K H wv w ∧ ZV K H zv z ∧ OkZ z ∧ Sm t ∧
  ∀ p xs H', H p = none → Ex H H' → H' p = some (.lst xs) → PVs K H' xs (times w z t) → Q (.ref p) H'
def sp_law_instant (K : PySem.W.Frag) : Sp := fun vs H Q _ => ∃ (wv zv tv : V) (w : Way) (z : Zone) (t : Tm), vs = [wv, zv, tv] ∧ WayV K H wv w ∧ ZV K H zv z ∧ OkZ z ∧ PV K H tv t ∧ IsTm w z t ∧ Sm t.1 ∧ ∀ H', Ex H H' → Q (.int (inst w z t)) H'
def sp_law_at (K : PySem.W.Frag) : Sp := fun vs H Q _ => ∃ (wv zv : V) (w : Way) (z : Zone) (t : Int), vs = [wv, zv, .int t] ∧ WayV K H wv w ∧ ZV K H zv z ∧ OkZ z ∧ Sm t ∧ ∀ v H', Ex H H' → TV K H' v (at_ w z t) → Q v H'
def sp_law_read (K : PySem.W.Frag) : Sp := fun vs H Q _ => ∃ (wv zv : V) (w : Way) (z : Zone) (t : Int), vs = [wv, zv, .int t] ∧ WayV K H wv w ∧ ZV K H zv z ∧ OkZ z ∧ Sn t ∧ ∀ v H', Ex H H' → TV K H' v (read_ w z t) → Q v H'
def OkT (w : Way) (z : Zone) (o : Option Tm) : Prop := ∀ t, o = some t → IsTm w z t ∧ Sm t.1
def sp_law_add (K : PySem.W.Frag) : Sp := fun vs H Q _ => ∃ (wv zv tv : V) (w : Way) (z : Zone) (o : Option Tm) (d : Int), vs = [wv, zv, tv, .int d] ∧ WayV K H wv w ∧ ZV K H zv z ∧ OkZ z ∧ TV K H tv o ∧ OkT w z o ∧ (∀ t, o = some t → Sn (t.1 + d + 20) ∧ Sn (t.1 + d - 20)) ∧
  ∀ v H', Ex H H' → TV K H' v (addT w z o d) → Q v H'
def sp_law_less (K : PySem.W.Frag) : Sp := fun vs H Q _ => ∃ (wv zv av bv : V) (w : Way) (z : Zone) (a b : Tm), vs = [wv, zv, av, bv] ∧ WayV K H wv w ∧ ZV K H zv z ∧ OkZ z ∧ PV K H av a ∧ PV K H bv b ∧ IsTm w z a ∧ Sm a.1 ∧ IsTm w z b ∧ Sm b.1 ∧
  ∀ H', Ex H H' → Q (.int (less_ w z a b)) H'
def ordV : Option Int → V
  | none => .non
  | some i => .int i
def sp_law_order (K : PySem.W.Frag) : Sp := fun vs H Q _ => ∃ (wv zv av bv : V) (w : Way) (z : Zone) (a b : Option Tm), vs = [wv, zv, av, bv] ∧ WayV K H wv w ∧ ZV K H zv z ∧ OkZ z ∧ TV K H av a ∧ TV K H bv b ∧ OkT w z a ∧ OkT w z b ∧
  ∀ H', Ex H H' → Q (ordV (order w z a b)) H'
def sp_law_hours (K : PySem.W.Frag) : Sp := fun vs H Q _ => ∃ ρ : Rw, vs = [.ref ρ.1] ∧ Row K H ρ ∧ ∀ d H', -400 ≤ d → d ≤ 400 → Fr ρ.1 H H' → Row K H' ρ → Q (.int d) H'
def sp_law_time (K : PySem.W.Frag) : Sp := fun vs H Q _ => ∃ (ρ : Rw) (wv zv : V) (w : Way) (z : Zone), vs = [.ref ρ.1, wv, zv] ∧ Row K H ρ ∧ WayV K H wv w ∧ ZV K H zv z ∧ OkZ z ∧
  ∀ v t H', Fr ρ.1 H H' → Row K H' ρ → PV K H' v t → IsTm w z t → -3000 ≤ t.1 → t.1 ≤ 3000 → Q v H'
section
variable {P : Program} {w : World} {K : PySem.W.Frag} {mg : Str → Option Value} {base : Heap}
theorem ok_law_library (T : Txt w K mg) : FnOk P w K mg base CX0 3 T.f_law_library.f T.f_law_library.fd ["row"] (sp_law_library K) := by
  refine T.f_law_library.F.ok sc_law_library (fun vs H Q E h => ?_) (fun cdv A outer s H vs Q E hr h => ?_)
  · obtain ⟨ρ, rfl, _⟩ := h
    rfl
  obtain ⟨ρ, rfl, hR, k⟩ := h
  refine ⟨(tSeq (tPar 1 2 (tCons (tCall (sp_law_pick K) [] E0 (tCons (tVar 0) (tCons (tLst (tCons (tC (.str "elapsed")) (tCons (tC (.str "wall")) tNil))) tNil))) (tCons (tCall (sp_law_pick K) [] E0 (tCons (tVar 0) (tCons (tLst (tCons (tC (.str "elapsed")) (tCons (tC (.str "wall")) tNil))) tNil))) tNil))) (tRet (tTup (tCons (tVar 1) (tCons (tVar 2) (tCons (tCall (sp_law_pick K) [] E0 (tCons (tVar 0) (tCons (tLst (tCons (tC (.str "keep")) (tCons (tC (.str "refuse")) (tCons (tC (.str "shift")) tNil)))) tNil))) (tCons (tCall (sp_law_pick K) [] E0 (tCons (tVar 0) (tCons (tLst (tCons (tC (.str "both")) (tCons (tC (.str "first")) (tCons (tC (.str "refuse")) (tCons (tC (.str "second")) tNil))))) tNil))) tNil))))))),
    PSs.nox (pss_cons (ps_par (by rfl) sc_law_library.nd rfl rfl (by decide) rfl rfl (pa_cons (pe_call (ok_law_pick T) (hr.mono (by decide)) (by rfl) T.f_law_pick.g T.f_law_pick.F.kp T.f_law_pick.b .nil pass0 (pa_cons (pv 0) (pa_cons (pe_lst (pa_cons pe_str (pa_cons pe_str pa_nil))) pa_nil))) (pa_cons (pe_call (ok_law_pick T) (hr.mono (by decide)) (by rfl) T.f_law_pick.g T.f_law_pick.F.kp T.f_law_pick.b .nil pass0 (pa_cons (pv 0) (pa_cons (pe_lst (pa_cons pe_str (pa_cons pe_str pa_nil))) pa_nil))) pa_nil)) (by rfl)) (pss_one (ps_ret (pe_tup (pa_cons (pv 1) (pa_cons (pv 2) (pa_cons (pe_call (ok_law_pick T) (hr.mono (by decide)) (by rfl) T.f_law_pick.g T.f_law_pick.F.kp T.f_law_pick.b .nil pass0 (pa_cons (pv 0) (pa_cons (pe_lst (pa_cons pe_str (pa_cons pe_str (pa_cons pe_str pa_nil)))) pa_nil))) (pa_cons (pe_call (ok_law_pick T) (hr.mono (by decide)) (by rfl) T.f_law_pick.g T.f_law_pick.F.kp T.f_law_pick.b .nil pass0 (pa_cons (pv 0) (pa_cons (pe_lst (pa_cons pe_str (pa_cons pe_str (pa_cons pe_str (pa_cons pe_str pa_nil))))) pa_nil))) pa_nil)))))))), ?_⟩
  walk_at "gg"
  refine g_newL (by simp) fun l1 H1 n1 e1 h1 => ?_
  walk_at "gg"
  obtain ⟨_, q0⟩ := hR.lst
  refine ⟨ρ, _, _, rfl, hR.ex e1, h1, (ne_of_none q0 n1).symm, by simp, by simp, fun x H2 m2 e2 R2 => ?_⟩
  walk_at "gg"
  refine g_newL (by simp) fun l3 H3 n3 e3 h3 => ?_
  walk_at "gg"
  obtain ⟨_, q2⟩ := R2.lst
  refine ⟨ρ, _, _, rfl, R2.ex e3, h3, (ne_of_none q2 n3).symm, by simp, by simp, fun y H4 m4 e4 R4 => ?_⟩
  walk_at "gg"
  refine g_newL (by simp) fun l5 H5 n5 e5 h5 => ?_
  walk_at "gg"
  obtain ⟨_, q4⟩ := R4.lst
  refine ⟨ρ, _, _, rfl, R4.ex e5, h5, (ne_of_none q4 n5).symm, by simp, by simp, fun u H6 m6 e6 R6 => ?_⟩
  walk_at "gg"
  refine g_newL (by simp) fun l7 H7 n7 e7 h7 => ?_
  walk_at "gg"
  obtain ⟨_, q6⟩ := R6.lst
  refine ⟨ρ, _, _, rfl, R6.ex e7, h7, (ne_of_none q6 n7).symm, by simp, by simp, fun v H8 m8 e8 R8 => ?_⟩
  walk_at "gg"
  refine g_newT (by simp) fun t9 H9 n9 e9 h9 => ?_
  obtain ⟨b1, rfl⟩ : ∃ b, x = .str (sumS b) := by
    simp only [List.mem_cons, List.not_mem_nil, or_false] at m2
    rcases m2 with rfl | rfl
    · exact ⟨false, rfl⟩
    · exact ⟨true, rfl⟩
  obtain ⟨b2, rfl⟩ : ∃ b, y = .str (sumS b) := by
    simp only [List.mem_cons, List.not_mem_nil, or_false] at m4
    rcases m4 with rfl | rfl
    · exact ⟨false, rfl⟩
    · exact ⟨true, rfl⟩
  obtain ⟨b3, rfl⟩ : ∃ b, u = .str (gapS b) := by
    simp only [List.mem_cons, List.not_mem_nil, or_false] at m6
    rcases m6 with rfl | rfl | rfl
    · exact ⟨.keep, rfl⟩
    · exact ⟨.refuse, rfl⟩
    · exact ⟨.shift, rfl⟩
  obtain ⟨b4, rfl⟩ : ∃ b, v = .str (foldS b) := by
    simp only [List.mem_cons, List.not_mem_nil, or_false] at m8
    rcases m8 with rfl | rfl | rfl | rfl
    · exact ⟨.both, rfl⟩
    · exact ⟨.first, rfl⟩
    · exact ⟨.refuse, rfl⟩
    · exact ⟨.second, rfl⟩
  refine k _ ⟨b1, b2, b3, b4⟩ H9 ?_ (R8.ex e9) ⟨t9, rfl, SqT.of h9⟩
  exact ((((Fr.of e1).trans e2).trans (Fr.of e3)).trans e4).trans ((((Fr.of e5).trans e6).trans (Fr.of e7)).trans (e8.trans (Fr.of e9)))
theorem ok_law_before (T : Txt w K mg) : FnOk P w K mg base CX0 2 T.f_law_before.f T.f_law_before.fd ["zone", "reading"] (sp_law_before K) := by
  refine T.f_law_before.F.ok sc_law_before (fun vs H Q E h => ?_) (fun cdv A outer s H vs Q E hr h => ?_)
  · obtain ⟨zv, z, t, rfl, _⟩ := h
    rfl
  obtain ⟨zv, z, t, rfl, hv, hz, b1, k⟩ := h
  unfold Sm at b1
  obtain ⟨m1, m2, m3, m4, m5⟩ := maxB_spec hz t
  refine ⟨(tSeq (tAsg (tCB (rMax K) (tCons (tLc (iRng2 (tCons (tOp (rI0 fun i j => .int (i - j)) (tVar 1) (tC (.int 16))) (tCons (tOp (rI0 fun i j => .int (i + j)) (tVar 1) (tC (.int 17))) tNil))) (gName 3) (tTest (tOp (rI0 fun i j => .bl (decide (i < j))) (tOp (rI0 fun i j => .int (i + j)) (tVar 3) (tCall (sp_law_offset K) [] E0 (tCons (tVar 0) (tCons (tVar 3) tNil)))) (tVar 1))) (tVar 3) [3]) tNil)) (gName 2)) (tRet (tCall (sp_law_offset K) [] E0 (tCons (tVar 0) (tCons (tVar 2) tNil))))),
    PSs.nox (pss_cons (ps_set (i := 2) sc_law_before.nd rfl (Or.inl rfl) (pe_callB (cr_max rfl) (by rfl) T.z_max (by decide +kernel) (pa_cons (pe_lc (own := [("each", 3)]) rfl sc_law_before.nd (pi_range2 (by rfl) T.z_range (pa_cons (pe_op op_sub (pv 1) pe_int) (pa_cons (pe_op op_add (pv 1) pe_int) pa_nil))) (blkOk_by (own := [("each", 3)]) (N := ["zone", "reading", "last", "each"]) (sc := defScope s_law_before) (by decide +kernel)) (fun _ _ _ _ _ => (pg_name (i := 3) sc_law_before.nd rfl (Or.inl rfl))) (fun _ _ _ _ _ => (pts_one (pt_cmpR op_lt (pe_op op_add (pv 3) (pe_call (ok_law_offset T) (hr.mono (by decide)) (by rfl) T.f_law_offset.g T.f_law_offset.F.kp T.f_law_offset.b .nil pass0 (pa_cons (pv 0) (pa_cons (pv 3) pa_nil)))) (pv 1) (nomark _)))) (fun _ _ _ _ _ => (pv 3))) pa_nil))) (pss_one (ps_ret (pe_call (ok_law_offset T) (hr.mono (by decide)) (by rfl) T.f_law_offset.g T.f_law_offset.F.kp T.f_law_offset.b .nil pass0 (pa_cons (pv 0) (pa_cons (pv 2) pa_nil)))))), ?_⟩
  walk_at "gg"
  refine g_lcRng2 ?_
  walk_at "gg"
  refine g_lcR2 (by omega) (by omega) (by omega) (by omega) (fun k => decide (k + off z k < t)) (fun k => .int k) ?_ ?_
  · rintro i H2 e2 _ _ R S hR hS
    walk_at "gg"
    refine ⟨rfl, ?_⟩
    walk_at "gg"
    refine ⟨_, _, _, rfl, hv.tr (TrT.of e2), hz, fun H3 e3 => ?_⟩
    walk_at "gg"
    refine if_d (fun c => ?_) (fun c => ?_)
    · walk_at "gg"
      exact hS (decide_eq_true c) _ e3
    · exact hR (decide_eq_false c) _ e3
  intro D H1 n1 e1 h1
  walk_at "gg"
  have mem : ∀ k, k ∈ (irange (t - 16) (t + 17 - (t - 16)).toNat).filter (fun k => decide (k + off z k < t)) ↔ (t - 16 ≤ k ∧ k < t + 17) ∧ k + off z k < t := fun k => by
    rw [List.mem_filter, irange_mem, decide_eq_true_eq]
    constructor <;> intro q <;> exact ⟨by omega, q.2⟩
  have mm := (mem (maxB z t)).2 ⟨by omega, m3⟩
  refine g_maxL (SqL.of h1) (List.length_pos_of_mem mm) fun m hm hle => ?_
  have em : m = maxB z t := by
    have q1 := hle _ mm
    have q2 := (mem m).1 hm
    have q3 := m5 m q2.1.1 (by omega) q2.2
    omega
  subst em
  walk_at "gg"
  exact ⟨_, _, _, rfl, hv.tr (TrT.of e1), hz, fun H2 e2 => k H2 (e1.trans e2)⟩
theorem ok_law_times (T : Txt w K mg) : FnOk P w K mg base CX0 3 T.f_law_times.f T.f_law_times.fd ["way", "zone", "reading"] (sp_law_times K) := by
  refine T.f_law_times.F.ok sc_law_times (fun vs H Q E h => ?_) (fun cdv A outer s H vs Q E hr h => ?_)
  · obtain ⟨wv, zv, w, z, t, rfl, _⟩ := h
    rfl
  obtain ⟨wv, zv, w, z, t, rfl, ⟨wa, rfl, hw⟩, hv, hz, b1, k⟩ := h
  unfold Sm at b1
  unfold times at k
  refine ⟨(tSeq (tAsg (tCB (Evl.rLenS K) (tCons (tCall (sp_law_instants K) [] E0 (tCons (tVar 1) (tCons (tVar 2) tNil))) tNil)) (gName 3)) (tSeq (tIfS (tTest (tOp rEq (tVar 3) (tC (.int 2)))) (tRet (tDGet2 (tDisp [((tC (.str "both")), (tLst (tCons (tTup (tCons (tVar 2) (tCons (tC (.int 0)) tNil))) (tCons (tTup (tCons (tVar 2) (tCons (tC (.int 1)) tNil))) tNil)))), ((tC (.str "refuse")), (tLst tNil))]) (tOp (rIxT K) (tVar 0) (tC (.int 3))) (tLst (tCons (tTup (tCons (tVar 2) (tCons (tC (.int 0)) tNil))) tNil)))) tNext) (tRet (tIf (tOr (tTest (tOp rEq (tVar 3) (tC (.int 1)))) (tTest (tOp rEq (tOp (rIxT K) (tVar 0) (tC (.int 2))) (tC (.str "keep"))))) (tLst (tCons (tTup (tCons (tVar 2) (tCons (tC (.int 0)) tNil))) tNil)) (tLst tNil))))),
    PSs.nox (pss_cons (ps_set (i := 3) sc_law_times.nd rfl (Or.inl rfl) (pe_callB call_len_seq (by rfl) T.z_len (by decide +kernel) (pa_cons (pe_call (ok_law_instants T) (hr.mono (by decide)) (by rfl) T.f_law_instants.g T.f_law_instants.F.kp T.f_law_instants.b .nil pass0 (pa_cons (pv 1) (pa_cons (pv 2) pa_nil))) pa_nil))) (pss_cons (ps_if (pt_cmpR op_eq (pv 3) pe_int (nomark _)) (pss_one (ps_ret (pe_dget2 (hu_of hr) (pe_disp (pps_cons pe_str (pe_lst (pa_cons (pe_tup (pa_cons (pv 2) (pa_cons pe_int pa_nil))) (pa_cons (pe_tup (pa_cons (pv 2) (pa_cons pe_int pa_nil))) pa_nil))) (pps_cons pe_str (pe_lst pa_nil) pps_nil)) (by rfl) (by rfl) (fun z => by cases z) (by decide)) (pe_ix ix_tup (pv 0) pe_int (fun _ _ => rfl)) (pe_lst (pa_cons (pe_tup (pa_cons (pv 2) (pa_cons pe_int pa_nil))) pa_nil)) ⟨by rfl, by rfl, by rfl, by rfl⟩))) pss_nil) (pss_one (ps_ret (pe_ifExp (PW.pt (pw_or (pt_cmpR op_eq (pv 3) pe_int (nomark _)) (pw_or1 (pt_cmpR op_eq (pe_ix ix_tup (pv 0) pe_int (fun _ _ => rfl)) pe_str (nomark _))))) (pe_lst (pa_cons (pe_tup (pa_cons (pv 2) (pa_cons pe_int pa_nil))) pa_nil)) (pe_lst pa_nil)))))), ?_⟩
  walk_at "gg"
  refine ⟨_, _, _, rfl, hv, hz, by omega, by omega, fun p H1 n1 e1 h1 => ?_⟩
  walk_at "gg"
  refine g_lenL (SqL.of h1) ?_
  rw [List.length_map]
  walk_at "gg"
  refine if_d (fun c => ?_) (fun c => ?_)
  · rw [if_pos (by omega)] at k
    walk_at "gg"
    refine g_disp fun d H2 n2 e2 h2 => ?_
    walk_at "gg"
    refine g_newT (by simp) fun t3 H3 n3 e3 h3 => ?_
    walk_at "gg"
    refine g_newT (by simp) fun t4 H4 n4 e4 h4 => ?_
    walk_at "gg"
    refine g_newL (by simp) fun l5 H5 n5 e5 h5 => ?_
    walk_at "gg"
    refine g_newL (by simp) fun l6 H6 n6 e6 h6 => ?_
    walk_at "gg"
    refine g_dispEnd [((Sum.inr "both" : Key), V.ref l5), (Sum.inr "refuse", V.ref l6)] (H0 := H1) n2 (((e2.trans e3).trans e4).trans (e5.trans e6)) (e6 _ _ (e5 _ _ (e4 _ _ (e3 _ _ h2)))) rfl (by simp) fun H7 e7 f7 h7 => ?_
    refine g_isD h7 ?_
    have d6 := e6 _ _ (e5 _ _ (e4 _ _ (e3 _ _ h2)))
    have h53 : H7 l5 = some (.lst [V.ref t3, V.ref t4]) := f7 _ _ (ne_of (e6 _ _ h5) d6 (fun z => nomatch z)) (e6 _ _ h5)
    have h63 : H7 l6 = some (.lst []) := f7 _ _ (ne_of h6 d6 (fun z => nomatch z)) h6
    have g3 := e6 _ _ (e5 _ _ (e4 _ _ h3))
    have g4 := e6 _ _ (e5 _ _ h4)
    have h33 : H7 t3 = some (.tup [V.int t, V.int 0]) := f7 _ _ (ne_of g3 d6 (fun z => nomatch z)) g3
    have h43 : H7 t4 = some (.tup [V.int t, V.int 1]) := f7 _ _ (ne_of g4 d6 (fun z => nomatch z)) g4
    have back : ∀ l : Addr, H1 l = none → H l = none := fun l q => Evl.fresh_back e1 q
    walk_at "gg"
    refine g_newT (by simp) fun t8 H8 n8 e8 h8 => ?_
    walk_at "gg"
    refine g_newL (by simp) fun l9 H9 n9 e9 h9 => ?_
    refine g_dgetR (e9 _ _ (e8 _ _ h7)) ?_
    have nbr : ¬ (Sum.inr ("both" : Str) : Key) = Sum.inr ("refuse" : Str) := by decide +kernel
    rw [merge2 nbr]
    have e09 : Ex H H9 := e1.trans (e7.trans (e8.trans e9))
    have e79 : Ex H7 H9 := e8.trans e9
    have n15 : H l5 = none := back _ (Evl.fresh_back ((e2.trans e3).trans e4) n5)
    have n16 : H l6 = none := back _ (Evl.fresh_back (((e2.trans e3).trans e4).trans e5) n6)
    have n19 : H l9 = none := back _ (Evl.fresh_back (e7.trans e8) n9)
    rw [val_fold]
    cases hf : w.fold with
    | both =>
      rw [hf] at k
      exact k l5 _ H9 n15 e09 (e79 _ _ h53) (.cons ⟨t3, rfl, SqT.of (e79 _ _ h33)⟩ (.cons ⟨t4, rfl, SqT.of (e79 _ _ h43)⟩ .nil))
    | first =>
      rw [hf] at k
      exact k l9 _ H9 n19 e09 h9 (.cons ⟨t8, rfl, SqT.of (e9 _ _ h8)⟩ .nil)
    | refuse =>
      rw [hf] at k
      exact k l6 _ H9 n16 e09 (e79 _ _ h63) .nil
    | second =>
      rw [hf] at k
      exact k l9 _ H9 n19 e09 h9 (.cons ⟨t8, rfl, SqT.of (e9 _ _ h8)⟩ .nil)
  · rw [if_neg (by omega)] at k
    walk_at "gg"
    have one : ∀ H2, Ex H1 H2 → (if (insts z t).length = 1 ∨ w.gap = .keep then [(t, 0)] else []) = [(t, (0 : Int))] → NewT [V.int t, V.int 0] H2 fun x H3 => NewL [x] H3 Q := by
      intro H2 e2 ek
      rw [ek] at k
      refine g_newT (by simp) fun t3 H3 n3 e3 h3 => ?_
      refine g_newL (by simp) fun l4 H4 n4 e4 h4 => ?_
      exact k l4 _ H4 (Evl.fresh_back ((e1.trans e2).trans e3) n4) (((e1.trans e2).trans e3).trans e4) h4 (.cons ⟨t3, rfl, SqT.of (e4 _ _ h3)⟩ .nil)
    refine if_d (fun c2 => ?_) (fun c2 => ?_)
    · walk_at "gg"
      exact one _ (Evl.Ex.refl _) (if_pos (.inl (by omega)))
    · walk_at "gg"
      rw [gap_keep]
      refine if_d (fun c3 => ?_) (fun c3 => ?_)
      · walk_at "gg"
        exact one _ (Evl.Ex.refl _) (if_pos (.inr c3))
      · walk_at "gg"
        rw [if_neg (by intro q; rcases q with q | q; exact c2 (by omega); exact c3 q)] at k
        refine g_newL (by simp) fun l4 H4 n4 e4 h4 => ?_
        exact k l4 _ H4 (Evl.fresh_back e1 n4) (e1.trans e4) h4 .nil
theorem ok_law_instant (T : Txt w K mg) : FnOk P w K mg base CX0 3 T.f_law_instant.f T.f_law_instant.fd ["way", "zone", "time"] (sp_law_instant K) := by
  refine T.f_law_instant.F.ok sc_law_instant (fun vs H Q E h => ?_) (fun cdv A outer s H vs Q E hr h => ?_)
  · obtain ⟨wv, zv, tv, w, z, t, rfl, _⟩ := h
    rfl
  obtain ⟨wv, zv, tv, w, z, t, rfl, ⟨wa, rfl, hw⟩, hv, hz, ⟨ta, rfl, ht⟩, hi, b1, k⟩ := h
  unfold Sm at b1
  unfold inst at k
  refine ⟨(tSeq (tAsg (tCall (sp_law_instants K) [] E0 (tCons (tVar 1) (tCons (tOp (rIxT K) (tVar 2) (tC (.int 0))) tNil))) (gName 3)) (tSeq (tIfS (tTest (tOp (rEqD K) (tVar 3) (tLst tNil))) (tRet (tOp (rI0 fun i j => .int (i - j)) (tOp (rIxT K) (tVar 2) (tC (.int 0))) (tCall (sp_law_before K) [] E0 (tCons (tVar 1) (tCons (tOp (rIxT K) (tVar 2) (tC (.int 0))) tNil))))) tNext) (tRet (tIf (tTest (tOp rEq (tOp (rIxT K) (tVar 0) (tC (.int 3))) (tC (.str "second")))) (tOp (rIxL K) (tVar 3) (tUn (rU fun i => .int (-i)) (tC (.int 1)))) (tOp (rIxL K) (tVar 3) (tOp (rIxT K) (tVar 2) (tC (.int 1)))))))),
    PSs.nox (pss_cons (ps_set (i := 3) sc_law_instant.nd rfl (Or.inl rfl) (pe_call (ok_law_instants T) (hr.mono (by decide)) (by rfl) T.f_law_instants.g T.f_law_instants.F.kp T.f_law_instants.b .nil pass0 (pa_cons (pv 1) (pa_cons (pe_ix ix_tup (pv 2) pe_int (fun _ _ => rfl)) pa_nil)))) (pss_cons (ps_if (pt_cmpR (op_eqD hr.units) (pv 3) (pe_lst pa_nil) (nomark _)) (pss_one (ps_ret (pe_op op_sub (pe_ix ix_tup (pv 2) pe_int (fun _ _ => rfl)) (pe_call (ok_law_before T) (hr.mono (by decide)) (by rfl) T.f_law_before.g T.f_law_before.F.kp T.f_law_before.b .nil pass0 (pa_cons (pv 1) (pa_cons (pe_ix ix_tup (pv 2) pe_int (fun _ _ => rfl)) pa_nil)))))) pss_nil) (pss_one (ps_ret (pe_ifExp (pt_cmpR op_eq (pe_ix ix_tup (pv 0) pe_int (fun _ _ => rfl)) pe_str (nomark _)) (pe_ix ix_list (pv 3) (pe_un un_neg pe_int) (fun _ _ => rfl)) (pe_ix ix_list (pv 3) (pe_ix ix_tup (pv 2) pe_int (fun _ _ => rfl)) (fun _ _ => rfl))))))), ?_⟩
  walk_at "gg"
  refine ⟨_, _, _, rfl, hv, hz, by omega, by omega, fun p H1 n1 e1 h1 => ?_⟩
  walk_at "gg"
  refine g_newL (by simp) fun l2 H2 n2 e2 h2 => ?_
  refine g_eqNil (e2 _ _ h1) h2 ?_
  walk_at "gg"
  by_cases c : insts z t.1 = []
  · rw [if_pos c] at k
    rw [show (insts z t.1).isEmpty = true by rw [c] <;> rfl]
    walk_at "gg"
    refine ⟨_, _, _, rfl, (hv.tr (TrT.of (e1.trans e2))), hz, b1, fun H3 e3 => ?_⟩
    walk_at "gg"
    exact k _ ((e1.trans e2).trans e3)
  · rw [if_neg c] at k
    rw [show (insts z t.1).isEmpty = false by cases q : insts z t.1 with | nil => exact (c q).elim | cons _ _ => rfl]
    walk_at "gg"
    rw [fold_second]
    refine if_d (fun c2 => ?_) (fun c2 => ?_)
    · rw [if_pos c2] at k
      walk_at "gg"
      refine g_ixL (SqL.of (e2 _ _ h1)) (atI_end (v := V.int ((insts z t.1).getLast?.getD 0)) ?_) (k _ (e1.trans e2))
      rw [List.getLast?_map, insts_last c]
      rfl
    · rw [if_neg c2] at k
      walk_at "gg"
      have lt : t.2.toNat < (insts z t.1).length := by
        have c3 : 0 < (insts z t.1).length := List.length_pos_iff.mpr c
        rcases hi.pass with p | p
        · rw [p]; exact c3
        · rw [p.1, p.2.2]; decide
      have p0 : 0 ≤ t.2 := by rcases hi.pass with p | p <;> omega
      rw [List.getElem?_eq_getElem lt] at k
      refine g_ixL (SqL.of (e2 _ _ h1)) (v := .int ((insts z t.1)[t.2.toNat])) (atI_of p0 ?_) (k _ (e1.trans e2))
      rw [List.getElem?_map, List.getElem?_eq_getElem lt]
      rfl
theorem ok_law_at (T : Txt w K mg) : FnOk P w K mg base CX0 3 T.f_law_at.f T.f_law_at.fd ["way", "zone", "instant"] (sp_law_at K) := by
  refine T.f_law_at.F.ok sc_law_at (fun vs H Q E h => ?_) (fun cdv A outer s H vs Q E hr h => ?_)
  · obtain ⟨wv, zv, w, z, t, rfl, _⟩ := h
    rfl
  obtain ⟨wv, zv, w, z, t, rfl, ⟨wa, rfl, hw⟩, hv, hz, b1, k⟩ := h
  unfold Sm at b1
  have ho := hz.offs t
  have hs := insts_self hz t
  unfold at_ at k
  refine ⟨(tSeq (tAsg (tOp (rI0 fun i j => .int (i + j)) (tVar 2) (tCall (sp_law_offset K) [] E0 (tCons (tVar 1) (tCons (tVar 2) tNil)))) (gName 3)) (tSeq (tAsg (tCall (sp_law_instants K) [] E0 (tCons (tVar 1) (tCons (tVar 3) tNil))) (gName 4)) (tSeq (tIfS (tAnd (tTest (tOp rEq (tCB (Evl.rLenS K) (tCons (tVar 4) tNil)) (tC (.int 2)))) (tTest (tOp rEq (tOp (rIxT K) (tVar 0) (tC (.int 3))) (tC (.str "refuse"))))) (tRet (tC (.str "refused"))) tNext) (tRet (tTup (tCons (tVar 3) (tCons (tIf (tAnd (tTest (tOp rEq (tOp (rIxT K) (tVar 0) (tC (.int 3))) (tC (.str "both")))) (tTest (tOp rNe (tVar 2) (tOp (rIxL K) (tVar 4) (tC (.int 0)))))) (tC (.int 1)) (tC (.int 0))) tNil))))))),
    PSs.nox (pss_cons (ps_set (i := 3) sc_law_at.nd rfl (Or.inl rfl) (pe_op op_add (pv 2) (pe_call (ok_law_offset T) (hr.mono (by decide)) (by rfl) T.f_law_offset.g T.f_law_offset.F.kp T.f_law_offset.b .nil pass0 (pa_cons (pv 1) (pa_cons (pv 2) pa_nil))))) (pss_cons (ps_set (i := 4) sc_law_at.nd rfl (Or.inl rfl) (pe_call (ok_law_instants T) (hr.mono (by decide)) (by rfl) T.f_law_instants.g T.f_law_instants.F.kp T.f_law_instants.b .nil pass0 (pa_cons (pv 1) (pa_cons (pv 3) pa_nil)))) (pss_cons (ps_if (PW.pt (pw_and (pt_cmpR op_eq (pe_callB call_len_seq (by rfl) T.z_len (by decide +kernel) (pa_cons (pv 4) pa_nil)) pe_int (nomark _)) (pw_and1 (pt_cmpR op_eq (pe_ix ix_tup (pv 0) pe_int (fun _ _ => rfl)) pe_str (nomark _))))) (pss_one (ps_ret pe_str)) pss_nil) (pss_one (ps_ret (pe_tup (pa_cons (pv 3) (pa_cons (pe_ifExp (PW.pt (pw_and (pt_cmpR op_eq (pe_ix ix_tup (pv 0) pe_int (fun _ _ => rfl)) pe_str (nomark _)) (pw_and1 (pt_cmpR op_ne (pv 2) (pe_ix ix_list (pv 4) pe_int (fun _ _ => rfl)) (nomark _))))) pe_int pe_int) pa_nil)))))))), ?_⟩
  walk_at "gg"
  refine ⟨_, _, _, rfl, hv, hz, fun H1 e1 => ?_⟩
  walk_at "gg"
  refine ⟨_, _, _, rfl, hv.tr (TrT.of e1), hz, by omega, by omega, fun p H2 n2 e2 h2 => ?_⟩
  walk_at "nn"
  generalize hl : insts z (t + off z t) = l at *
  refine cutS (ts := tIfS _ _ _) (fun σ' H' => σ' = [some (.ref wa), some zv, some (.int t), some (.int (t + off z t)), some (.ref p)] ∧ H2 = H' ∧ ¬ (l.length = 2 ∧ w.fold = .refuse)) ?_ ?_
  · intro n' k'
    walk_at "gg"
    refine g_lenL (SqL.of h2) ?_
    rw [List.length_map]
    walk_at "gg"
    refine if_d (fun c => ?_) (fun c => ?_)
    · walk_at "gg"
      rw [fold_refuse]
      refine if_d (fun c2 => ?_) (fun c2 => ?_)
      · walk_at "gg"
        rw [if_pos ⟨by omega, c2⟩] at k
        exact k _ _ (e1.trans e2) rfl
      · walk_at "gg"
        exact k' _ _ ⟨rfl, rfl, fun q => c2 q.2⟩
    · walk_at "gg"
      exact k' _ _ ⟨rfl, rfl, fun q => c (by omega)⟩
  rintro _ _ ⟨rfl, rfl, c⟩
  rw [if_neg c] at k
  have fin : ∀ (x : Int), (if w.fold = .both ∧ t ≠ l.head?.getD 0 then (1 : Int) else 0) = x → NewT [V.int (t + off z t), .int x] H2 Q := by
    intro x ex
    rw [ex] at k
    refine g_newT (by simp) fun t3 H3 n3 e3 h3 => ?_
    exact k _ H3 ((e1.trans e2).trans e3) ⟨t3, rfl, SqT.of h3⟩
  walk_at "gg"
  rw [fold_both]
  refine if_d (fun c1 => ?_) (fun c1 => ?_)
  · walk_at "gg"
    obtain ⟨a, l', rfl⟩ : ∃ a l', l = a :: l' := by
      cases l with
      | nil => cases hs
      | cons a l' => exact ⟨a, l', rfl⟩
    refine g_ixL (SqL.of h2) (v := .int a) (atI_of (by omega) (by simp)) ?_
    walk_at "gg"
    refine if_nd (fun c2 => ?_) (fun c2 => ?_)
    · walk_at "gg"
      exact fin 1 (if_pos ⟨c1, c2⟩)
    · walk_at "gg"
      exact fin 0 (if_neg fun q => q.2 c2)
  · walk_at "gg"
    exact fin 0 (if_neg fun q => c1 q.1)
theorem ok_law_read (T : Txt w K mg) : FnOk P w K mg base CX0 4 T.f_law_read.f T.f_law_read.fd ["way", "zone", "reading"] (sp_law_read K) := by
  refine T.f_law_read.F.ok sc_law_read (fun vs H Q E h => ?_) (fun cdv A outer s H vs Q E hr h => ?_)
  · obtain ⟨wv, zv, w, z, t, rfl, _⟩ := h
    rfl
  obtain ⟨wv, zv, w, z, t, rfl, hwv, hv, hz, b1, k⟩ := h
  obtain ⟨wa, rfl, hw⟩ := id hwv
  unfold Sn at b1
  have hk : ∀ o, read_ w z t = o → ∀ v H', Ex H H' → TV K H' v o → Q v H' := by
    rintro _ rfl
    exact k
  have near : ∀ rd, -15 ≤ before z rd ∧ before z rd ≤ 15 := fun rd => hz.offs _
  refine ⟨(tSeq (tAsg (tCall (sp_law_instants K) [] E0 (tCons (tVar 1) (tCons (tVar 2) tNil))) (gName 3)) (tSeq (tIfS (tAnd (tTest (tOp (rEqD K) (tVar 3) (tLst tNil))) (tTest (tOp rEq (tOp (rIxT K) (tVar 0) (tC (.int 2))) (tC (.str "shift"))))) (tRet (tCall (sp_law_at K) [] E0 (tCons (tVar 0) (tCons (tVar 1) (tCons (tOp (rI0 fun i j => .int (i - j)) (tVar 2) (tCall (sp_law_before K) [] E0 (tCons (tVar 1) (tCons (tVar 2) tNil)))) tNil))))) tNext) (tSeq (tAsg (tIf (tTest (tOp (rEqD K) (tVar 3) (tLst tNil))) (tOp rEq (tOp (rIxT K) (tVar 0) (tC (.int 2))) (tC (.str "refuse"))) (tAndV (tOp rEq (tOp (rIxT K) (tVar 0) (tC (.int 3))) (tC (.str "refuse"))) (tOp rEq (tCB (Evl.rLenS K) (tCons (tVar 3) tNil)) (tC (.int 2))))) (gName 4)) (tRet (tIf (tB (tVar 4)) (tC (.str "refused")) (tTup (tCons (tVar 2) (tCons (tC (.int 0)) tNil)))))))),
    PSs.nox (pss_cons (ps_set (i := 3) sc_law_read.nd rfl (Or.inl rfl) (pe_call (ok_law_instants T) (hr.mono (by decide)) (by rfl) T.f_law_instants.g T.f_law_instants.F.kp T.f_law_instants.b .nil pass0 (pa_cons (pv 1) (pa_cons (pv 2) pa_nil)))) (pss_cons (ps_if (PW.pt (pw_and (pt_cmpR (op_eqD hr.units) (pv 3) (pe_lst pa_nil) (nomark _)) (pw_and1 (pt_cmpR op_eq (pe_ix ix_tup (pv 0) pe_int (fun _ _ => rfl)) pe_str (nomark _))))) (pss_one (ps_ret (pe_call (ok_law_at T) (hr.mono (by decide)) (by rfl) T.f_law_at.g T.f_law_at.F.kp T.f_law_at.b .nil pass0 (pa_cons (pv 0) (pa_cons (pv 1) (pa_cons (pe_op op_sub (pv 2) (pe_call (ok_law_before T) (hr.mono (by decide)) (by rfl) T.f_law_before.g T.f_law_before.F.kp T.f_law_before.b .nil pass0 (pa_cons (pv 1) (pa_cons (pv 2) pa_nil)))) pa_nil)))))) pss_nil) (pss_cons (ps_set (i := 4) sc_law_read.nd rfl (Or.inl rfl) (pe_ifExp (pt_cmpR (op_eqD hr.units) (pv 3) (pe_lst pa_nil) (nomark _)) (pe_cmpR op_eq (pe_ix ix_tup (pv 0) pe_int (fun _ _ => rfl)) pe_str (nomark _)) (pe_and (pe_cmpR op_eq (pe_ix ix_tup (pv 0) pe_int (fun _ _ => rfl)) pe_str (nomark _)) (pe_one (pe_cmpR op_eq (pe_callB call_len_seq (by rfl) T.z_len (by decide +kernel) (pa_cons (pv 3) pa_nil)) pe_int (nomark _)))))) (pss_one (ps_ret (pe_ifExp (pt_val (pv 4)) pe_str (pe_tup (pa_cons (pv 2) (pa_cons pe_int pa_nil))))))))), ?_⟩
  walk_at "gg"
  refine ⟨_, _, _, rfl, hv, hz, by omega, by omega, fun p H1 n1 e1 h1 => ?_⟩
  walk_at "gg"
  refine g_newL (by simp) fun l2 H2 n2 e2 h2 => ?_
  refine g_eqNil (e2 _ _ h1) h2 ?_
  have e12 := e1.trans e2
  walk_at "gg"
  have fin : ∀ H3, Ex H H3 → read_ w z t = some (t, (0 : Int)) → NewT [V.int t, V.int 0] H3 Q := by
    intro H3 e3 ek
    refine g_newT (by simp) fun t4 H4 n4 e4 h4 => ?_
    exact hk _ ek _ H4 (e3.trans e4) ⟨t4, rfl, SqT.of h4⟩
  by_cases c : insts z t = []
  · rw [show (insts z t).isEmpty = true by rw [c] <;> rfl]
    walk_at "gg"
    rw [gap_shift]
    refine if_d (fun c2 => ?_) (fun c2 => ?_)
    · walk_at "gg"
      refine ⟨_, _, _, rfl, hv.tr (TrT.of e12), hz, by unfold Sm; omega, fun H3 e3 => ?_⟩
      walk_at "gg"
      have := near t
      refine ⟨_, _, _, _, _, rfl, hwv.tr (TrT.of (e12.trans e3)), hv.tr (TrT.of (e12.trans e3)), hz, by unfold Sm; omega, fun v H4 e4 => hk _ ?_ v H4 ((e12.trans e3).trans e4)⟩
      unfold read_
      rw [if_pos c, c2]
    · walk_at "gg"
      refine g_newL (by simp) fun l3 H3 n3 e3 h3 => ?_
      refine g_eqNil (e3 _ _ (e2 _ _ h1)) h3 ?_
      rw [show (insts z t).isEmpty = true by rw [c] <;> rfl]
      walk_at "gg"
      rw [gap_refuse]
      refine if_d (fun c3 => ?_) (fun c3 => ?_)
      · walk_at "gg"
        refine hk none ?_ _ _ (e12.trans e3) rfl
        unfold read_
        rw [if_pos c, c3]
      · walk_at "gg"
        refine fin _ (e12.trans e3) ?_
        unfold read_
        rw [if_pos c]
        cases hg : w.gap with
        | keep => rfl
        | refuse => exact (c3 hg).elim
        | shift => exact (c2 hg).elim
  · have ne : (insts z t).isEmpty = false := by cases q : insts z t with | nil => exact (c q).elim | cons _ _ => rfl
    rw [ne]
    walk_at "gg"
    refine g_newL (by simp) fun l3 H3 n3 e3 h3 => ?_
    refine g_eqNil (e3 _ _ (e2 _ _ h1)) h3 ?_
    rw [ne]
    walk_at "gg"
    rw [fold_refuse]
    refine if_d (fun c3 => ?_) (fun c3 => ?_)
    · walk_at "gg"
      refine g_lenL (SqL.of (e3 _ _ (e2 _ _ h1))) ?_
      rw [List.length_map]
      walk_at "gg"
      refine if_d (fun c4 => ?_) (fun c4 => ?_)
      · walk_at "gg"
        refine hk none ?_ _ _ (e12.trans e3) rfl
        unfold read_
        rw [if_neg c, if_pos ⟨c3, by omega⟩]
      · walk_at "gg"
        exact fin _ (e12.trans e3) (by unfold read_; rw [if_neg c, if_neg fun q => c4 (by have := q.2; omega)])
    · walk_at "gg"
      exact fin _ (e12.trans e3) (by unfold read_; rw [if_neg c, if_neg fun q => c3 q.1])
theorem ok_law_add (T : Txt w K mg) : FnOk P w K mg base CX0 5 T.f_law_add.f T.f_law_add.fd ["way", "zone", "time", "hours"] (sp_law_add K) := by
  refine T.f_law_add.F.ok sc_law_add (fun vs H Q E h => ?_) (fun cdv A outer s H vs Q E hr h => ?_)
  · obtain ⟨wv, zv, tv, w, z, t, d, rfl, _⟩ := h
    rfl
  obtain ⟨wv, zv, tv, w, z, o, d, rfl, hwv, hv, hz, ht, ho, b1, k⟩ := h
  obtain ⟨wa, rfl, hw⟩ := id hwv
  refine ⟨(tSeq (tIfS (tTest (tOp (rEqD K) (tVar 2) (tC (.str "refused")))) (tRet (tVar 2)) tNext) (tRet (tIf (tTest (tOp rEq (tOp (rIxT K) (tVar 0) (tC (.int 0))) (tC (.str "wall")))) (tCall (sp_law_read K) [] E0 (tCons (tVar 0) (tCons (tVar 1) (tCons (tOp (rI0 fun i j => .int (i + j)) (tOp (rIxT K) (tVar 2) (tC (.int 0))) (tVar 3)) tNil)))) (tCall (sp_law_at K) [] E0 (tCons (tVar 0) (tCons (tVar 1) (tCons (tOp (rI0 fun i j => .int (i + j)) (tCall (sp_law_instant K) [] E0 (tCons (tVar 0) (tCons (tVar 1) (tCons (tVar 2) tNil)))) (tVar 3)) tNil))))))),
    PSs.nox (pss_cons (ps_if (pt_cmpR (op_eqD hr.units) (pv 2) pe_str (nomark _)) (pss_one (ps_ret (pv 2))) pss_nil) (pss_one (ps_ret (pe_ifExp (pt_cmpR op_eq (pe_ix ix_tup (pv 0) pe_int (fun _ _ => rfl)) pe_str (nomark _)) (pe_call (ok_law_read T) (hr.mono (by decide)) (by rfl) T.f_law_read.g T.f_law_read.F.kp T.f_law_read.b .nil pass0 (pa_cons (pv 0) (pa_cons (pv 1) (pa_cons (pe_op op_add (pe_ix ix_tup (pv 2) pe_int (fun _ _ => rfl)) (pv 3)) pa_nil)))) (pe_call (ok_law_at T) (hr.mono (by decide)) (by rfl) T.f_law_at.g T.f_law_at.F.kp T.f_law_at.b .nil pass0 (pa_cons (pv 0) (pa_cons (pv 1) (pa_cons (pe_op op_add (pe_call (ok_law_instant T) (hr.mono (by decide)) (by rfl) T.f_law_instant.g T.f_law_instant.F.kp T.f_law_instant.b .nil pass0 (pa_cons (pv 0) (pa_cons (pv 1) (pa_cons (pv 2) pa_nil)))) (pv 3)) pa_nil)))))))), ?_⟩
  walk_at "gg"
  refine g_eqT ht (b := none) rfl ?_
  walk_at "gg"
  refine if_d (fun c => ?_) (fun c => ?_)
  · walk_at "gg"
    subst c
    exact k _ _ (Evl.Ex.refl _) ht
  · walk_at "gg"
    cases o with
    | none => exact (c rfl).elim
    | some t =>
      obtain ⟨o1, o2⟩ := ho t rfl
      obtain ⟨b3, b4⟩ := b1 t rfl
      unfold Sn at b3 b4
      unfold Sm at o2
      obtain ⟨ta, rfl, hta⟩ := id ht
      have nr := inst_near hz o1
      unfold addT at k
      simp only at k
      rw [sum_wall]
      cases hs : w.ws with
      | true =>
        rw [hs, if_pos rfl] at k
        walk_at "gg"
        exact ⟨_, _, _, _, _, rfl, hwv, hv, hz, by unfold Sn; omega, k⟩
      | false =>
        rw [hs, if_neg (by decide)] at k
        walk_at "gg"
        refine ⟨_, _, _, _, _, t, rfl, hwv, hv, hz, ht, o1, o2, fun H1 e1 => ?_⟩
        walk_at "gg"
        exact ⟨_, _, _, _, _, rfl, hwv.tr (TrT.of e1), hv.tr (TrT.of e1), hz, by unfold Sm; omega, fun v H2 e2 => k v H2 (e1.trans e2)⟩
theorem ok_law_less (T : Txt w K mg) : FnOk P w K mg base CX0 4 T.f_law_less.f T.f_law_less.fd ["way", "zone", "one", "other"] (sp_law_less K) := by
  refine T.f_law_less.F.ok sc_law_less (fun vs H Q E h => ?_) (fun cdv A outer s H vs Q E hr h => ?_)
  · obtain ⟨wv, zv, av, bv, w, z, a, b, rfl, _⟩ := h
    rfl
  obtain ⟨wv, zv, av, bv, w, z, a, b, rfl, hwv, hv, hz, ha, hb, a1, a2, b1, b2, k⟩ := h
  obtain ⟨wa, rfl, hw⟩ := id hwv
  obtain ⟨aa, rfl, haa⟩ := id ha
  obtain ⟨ba, rfl, hba⟩ := id hb
  unfold less_ at k
  refine ⟨(tRet (tIf (tTest (tOp rEq (tOp (rIxT K) (tVar 0) (tC (.int 0))) (tC (.str "wall")))) (tOp (rI0 fun i j => .int (i - j)) (tOp (rIxT K) (tVar 2) (tC (.int 0))) (tOp (rIxT K) (tVar 3) (tC (.int 0)))) (tOp (rI0 fun i j => .int (i - j)) (tCall (sp_law_instant K) [] E0 (tCons (tVar 0) (tCons (tVar 1) (tCons (tVar 2) tNil)))) (tCall (sp_law_instant K) [] E0 (tCons (tVar 0) (tCons (tVar 1) (tCons (tVar 3) tNil))))))),
    PSs.nox (pss_one (ps_ret (pe_ifExp (pt_cmpR op_eq (pe_ix ix_tup (pv 0) pe_int (fun _ _ => rfl)) pe_str (nomark _)) (pe_op op_sub (pe_ix ix_tup (pv 2) pe_int (fun _ _ => rfl)) (pe_ix ix_tup (pv 3) pe_int (fun _ _ => rfl))) (pe_op op_sub (pe_call (ok_law_instant T) (hr.mono (by decide)) (by rfl) T.f_law_instant.g T.f_law_instant.F.kp T.f_law_instant.b .nil pass0 (pa_cons (pv 0) (pa_cons (pv 1) (pa_cons (pv 2) pa_nil)))) (pe_call (ok_law_instant T) (hr.mono (by decide)) (by rfl) T.f_law_instant.g T.f_law_instant.F.kp T.f_law_instant.b .nil pass0 (pa_cons (pv 0) (pa_cons (pv 1) (pa_cons (pv 3) pa_nil)))))))), ?_⟩
  walk_at "gg"
  rw [sum_wall]
  cases hs : w.ws with
  | true =>
    rw [hs, if_pos rfl] at k
    walk_at "gg"
    exact k _ (Evl.Ex.refl _)
  | false =>
    rw [hs, if_neg (by decide)] at k
    walk_at "gg"
    refine ⟨_, _, _, _, _, a, rfl, hwv, hv, hz, ha, a1, a2, fun H1 e1 => ?_⟩
    walk_at "gg"
    refine ⟨_, _, _, _, _, b, rfl, hwv.tr (TrT.of e1), hv.tr (TrT.of e1), hz, hb.tr (TrT.of e1), b1, b2, fun H2 e2 => ?_⟩
    walk_at "gg"
    exact k _ (e1.trans e2)
theorem ok_law_order (T : Txt w K mg) : FnOk P w K mg base CX0 4 T.f_law_order.f T.f_law_order.fd ["way", "zone", "one", "other"] (sp_law_order K) := by
  refine T.f_law_order.F.ok sc_law_order (fun vs H Q E h => ?_) (fun cdv A outer s H vs Q E hr h => ?_)
  · obtain ⟨wv, zv, av, bv, w, z, a, b, rfl, _⟩ := h
    rfl
  obtain ⟨wv, zv, av, bv, w, z, a, b, rfl, hwv, hv, hz, ha, hb, oa, ob, k⟩ := h
  obtain ⟨wa, rfl, hw⟩ := id hwv
  refine ⟨(tSeq (tIfS (tTest (tOp (rInD K) (tC (.str "refused")) (tLst (tCons (tVar 2) (tCons (tVar 3) tNil))))) (tRet (tC .non)) tNext) (tSeq (tAsg (tLc (iList K (tLst (tCons (tVar 2) (tCons (tVar 3) tNil)))) (gName 6) tYes (tIf (tTest (tOp rEq (tOp (rIxT K) (tVar 0) (tC (.int 1))) (tC (.str "wall")))) (tOp (rIxT K) (tVar 6) (tC (.int 0))) (tCall (sp_law_instant K) [] E0 (tCons (tVar 0) (tCons (tVar 1) (tCons (tVar 6) tNil))))) [6]) (gUnl K 2 (gCons (gName 4) (gCons (gName 5) gNil)))) (tRet (tOp (rI0 fun i j => .int (i - j)) (tCB r_int (tCons (tOp (rI0 fun i j => .bl (decide (j < i))) (tVar 4) (tVar 5)) tNil)) (tCB r_int (tCons (tOp (rI0 fun i j => .bl (decide (i < j))) (tVar 4) (tVar 5)) tNil)))))),
    PSs.nox (pss_cons (ps_if (pt_cmpR (op_inD (room65 hr)) pe_str (pe_lst (pa_cons (pv 2) (pa_cons (pv 3) pa_nil))) (by rfl)) (pss_one (ps_ret pe_non)) pss_nil) (pss_cons (ps_asg (pe_lc (own := [("time", 6)]) rfl sc_law_order.nd (pi_list (pe_lst (pa_cons (pv 2) (pa_cons (pv 3) pa_nil)))) (blkOk_by (own := [("time", 6)]) (N := ["way", "zone", "one", "other", "a", "b", "time"]) (sc := defScope s_law_order) (by decide +kernel)) (fun _ _ _ _ _ => (pg_name (i := 6) sc_law_order.nd rfl (Or.inl rfl))) (fun _ _ _ _ _ => pts_nil) (fun _ _ _ _ _ => (pe_ifExp (pt_cmpR op_eq (pe_ix ix_tup (pv 0) pe_int (fun _ _ => rfl)) pe_str (nomark _)) (pe_ix ix_tup (pv 6) pe_int (fun _ _ => rfl)) (pe_call (ok_law_instant T) (hr.mono (by decide)) (by rfl) T.f_law_instant.g T.f_law_instant.F.kp T.f_law_instant.b .nil pass0 (pa_cons (pv 0) (pa_cons (pv 1) (pa_cons (pv 6) pa_nil))))))) (pg_unl rfl (pgs_cons (pg_name (i := 4) sc_law_order.nd rfl (Or.inl rfl)) (pgs_cons (pg_name (i := 5) sc_law_order.nd rfl (Or.inl rfl)) pgs_nil)))) (pss_one (ps_ret (pe_op op_sub (pe_callTy call_int1 (by rfl) T.z_int (by decide +kernel) (pa_cons (pe_cmpR op_gt (pv 4) (pv 5) (nomark _)) pa_nil)) (pe_callTy call_int1 (by rfl) T.z_int (by decide +kernel) (pa_cons (pe_cmpR op_lt (pv 4) (pv 5) (nomark _)) pa_nil))))))), ?_⟩
  walk_at "gg"
  refine g_newL (by simp) fun l1 H1 n1 e1 h1 => ?_
  have ha1 := ha.tr (TrT.of e1)
  have hb1 := hb.tr (TrT.of e1)
  refine g_inT h1 ha1 hb1 ?_
  walk_at "gg"
  cases a with
  | none =>
    walk_at "gg"
    exact k _ e1
  | some a =>
    cases b with
    | none =>
      walk_at "gg"
      exact k _ e1
    | some b =>
      obtain ⟨a1, a2⟩ := oa a rfl
      obtain ⟨b1, b2⟩ := ob b rfl
      walk_at "gg"
      refine g_newL (by simp) fun l2 H2 n2 e2 h2 => ?_
      have e12 := e1.trans e2
      have hw2 := Evl.ex_t e12 hw
      walk_at "gg"
      refine g_lcL (K := K) (ds := [a, b]) (F := fun H' x (t : Tm) => PV K H' x t ∧ IsTm w z t ∧ Sm t.1) (SqL.of h2) (.cons ⟨PV.tr (TrT.of e12) ha, a1, a2⟩ (.cons ⟨PV.tr (TrT.of e12) hb, b1, b2⟩ .nil)) (by simp) (fun _ => true) (fun t => .int (key w z t)) (fun _ _ _ e h => ⟨h.1.tr (TrT.of e), h.2⟩) ?_ ?_
      · rintro t x H3 e3 ⟨ht, t1, t2⟩ R S hR hS
        obtain ⟨ta, rfl, hta⟩ := id ht
        walk_at "gg"
        refine ⟨rfl, ?_⟩
        walk_at "gg"
        rw [sum_wall]
        have hS : ∀ H4, Ex H3 H4 → S (.int (key w z t)) H4 := hS rfl
        unfold key at hS
        cases hs : w.wo with
        | true =>
          rw [hs, if_pos rfl] at hS
          walk_at "gg"
          exact hS _ (Evl.Ex.refl _)
        | false =>
          rw [hs, if_neg (by decide)] at hS
          walk_at "gg"
          exact ⟨_, _, _, _, _, t, rfl, hwv.tr (TrT.of (e12.trans e3)), hv.tr (TrT.of (e12.trans e3)), hz, ht, t1, t2, hS⟩
      intro D H3 n3 e3 h3
      have h3 : H3 D = some (.lst [.int (key w z a), .int (key w z b)]) := by
        rw [h3, filt_all]
        rfl
      refine g_gunl (SqL.of h3) rfl ?_
      walk_at "gg"
      have k3 := k H3 (e12.trans e3)
      unfold order cmp ordV at k3
      simp only at k3
      refine Eq.mp (congrArg (fun x => Q (V.int x) H3) ?_) k3
      generalize key w z a = x
      generalize key w z b = y
      by_cases c1 : x < y
      · rw [if_pos c1, decide_eq_true c1, decide_eq_false (by omega)]
        rfl
      · rw [if_neg c1, decide_eq_false c1]
        by_cases c2 : x = y
        · rw [if_pos c2, decide_eq_false (by omega)]
          rfl
        · rw [if_neg c2, decide_eq_true (by omega)]
          rfl
end

theorem g_slT {K : PySem.W.Frag} {a : Addr} {xs ys : List V} {k : Nat} {H : Hp} {Q : VK} (q : SqT K H a xs) (k1 : 0 < k) (k2 : k ≤ xs.length) (e : xs.drop k = ys) (h : ∀ p H', H p = none → Ex H H' → H' p = some (.tup ys) → Q (.ref p) H') :
    rSlT K (.ref a) (some (k : Int)) none H Q := by
  have e1 : HT.sIx xs.length 0 (some (k : Int)) = k := by
    rw [HT.sIx_nat]
    omega
  refine ⟨a, xs, rfl, q, ?_, fun p hp => ?_⟩
  · rw [e1]
    omega
  · have c : cutV xs (some (k : Int)) none = ys := by
      unfold cutV
      rw [e1, HT.sIx_none, ← e, List.take_of_length_le (by rw [List.length_drop]; omega)]
    rw [c]
    exact h p _ hp (Evl.Ex.new hp) upd_same
theorem g_slice {r : V → Option Int → Option Int → Hp → VK → Prop} {te : TE} {k : Int} {σ : St} {H : Hp} {Q : VK} (h : te σ H fun x H1 => r x (some k) none H1 Q) : tSl r te (tPart (tC (.int k))) tNoPart σ H Q := by
  have m : (fun x H1 => r x (some k) none H1 Q) = fun x H1 => tPart (tC (.int k)) σ H1 fun l H2 => tNoPart σ H2 fun u H3 => r x l u H3 Q := by
    funext x H1
    refine propext ⟨fun q => ⟨k, rfl, q⟩, fun q => ?_⟩
    obtain ⟨i, e, q⟩ := q
    cases e
    exact q
  rw [m] at h
  exact h
theorem g_ixD {K : PySem.W.Frag} {w : World} {a : Addr} {x : Str} {v : V} {H : Hp} {Q : VK} (d : KDct K w a x v) (h : Q v H) : rIxD K w (.ref a) (.str x) H Q := ⟨a, x, v, rfl, rfl, d, h⟩
/-! ### promises -/
def sp_is_library (K : PySem.W.Frag) : Sp := fun vs H Q _ => ∃ (wv : V) (w : Way), vs = [wv] ∧ WayV K H wv w ∧ Q (.bl true) H
def sp_check_library (K : PySem.W.Frag) : Sp := fun vs H Q _ => ∃ (wv : V) (w : Way), vs = [wv] ∧ WayV K H wv w ∧ Q .non H
def sp_passes_at (K : PySem.W.Frag) : Sp := fun vs H Q _ => ∃ (wv zv : V) (w : Way) (z : Zone) (t : Int), vs = [wv, zv, .int t] ∧ WayV K H wv w ∧ ZV K H zv z ∧ OkZ z ∧ (insts z t).length ≤ 2 ∧
  ∀ p H', Ex H H' → SqT K H' p ((times w z t).map fun x => .int x.2) → Q (.ref p) H'
section
variable {P : Program} {w : World} {K : PySem.W.Frag} {mg : Str → Option Value} {base : Heap}
theorem ok_is_library (T : Txt w K mg) : FnOk P w K mg base CX0 2 T.f_is_library.f T.f_is_library.fd ["value"] (sp_is_library K) := by
  refine T.f_is_library.F.ok sc_is_library (fun vs H Q E h => ?_) (fun cdv A outer s H vs Q E hr h => ?_)
  · obtain ⟨wv, w, rfl, _⟩ := h
    rfl
  obtain ⟨wv, w, rfl, ⟨a, rfl, hw⟩, k⟩ := h
  refine ⟨(tSeq (tIfS (tNot (tB (tCall (sp_is_tuple_of K) [] E0 (tCons (tC (.int 4)) (tCons (tVar 0) tNil))))) (tRet (tC (.bl false))) tNext) (tSeq (tAsg (tVar 0) (gTup K 4 (gCons (gName 1) (gCons (gName 2) (gCons (gName 3) (gCons (gName 4) gNil)))))) (tRet (tAndV (tOp (rIn K false) (tVar 1) (tC (.ref T.a_SUMS))) (tAndV (tOp (rIn K false) (tVar 2) (tC (.ref T.a_ORDERS))) (tAndV (tOp (rIn K false) (tVar 3) (tC (.ref T.a_GAPS))) (tOp (rIn K false) (tVar 4) (tC (.ref T.a_FOLDS))))))))),
    PSs.nox (pss_cons (ps_if (pt_not (pt_val (pe_call (ok_is_tuple_of T) (hr.mono (by decide)) (by rfl) T.f_is_tuple_of.g T.f_is_tuple_of.F.kp T.f_is_tuple_of.b .nil pass0 (pa_cons pe_int (pa_cons (pv 0) pa_nil))))) (pss_one (ps_ret pe_bl)) pss_nil) (pss_cons (ps_asg (pv 0) (pg_tup rfl (pgs_cons (pg_name (i := 1) sc_is_library.nd rfl (Or.inl rfl)) (pgs_cons (pg_name (i := 2) sc_is_library.nd rfl (Or.inl rfl)) (pgs_cons (pg_name (i := 3) sc_is_library.nd rfl (Or.inl rfl)) (pgs_cons (pg_name (i := 4) sc_is_library.nd rfl (Or.inl rfl)) pgs_nil)))))) (pss_one (ps_ret (pe_and (pe_cmpR op_in_seq (pv 1) (pe_glob (by rfl) T.c_SUMS rfl) (by rfl)) (pe_and (pe_cmpR op_in_seq (pv 2) (pe_glob (by rfl) T.c_ORDERS rfl) (by rfl)) (pe_and (pe_cmpR op_in_seq (pv 3) (pe_glob (by rfl) T.c_GAPS rfl) (by rfl)) (pe_one (pe_cmpR op_in_seq (pv 4) (pe_glob (by rfl) T.c_FOLDS rfl) (by rfl)))))))))), ?_⟩
  walk_at "gg"
  refine ⟨_, _, _, rfl, hw, ?_⟩
  walk_at "gg"
  refine g_inTu (T.q_SUMS _) rfl rfl ?_
  walk_at "gg"
  refine if_t (by cases w.ws <;> decide +kernel) ?_
  walk_at "gg"
  refine g_inTu (T.q_ORDERS _) rfl rfl ?_
  walk_at "gg"
  refine if_t (by cases w.wo <;> decide +kernel) ?_
  walk_at "gg"
  refine g_inTu (T.q_GAPS _) rfl rfl ?_
  walk_at "gg"
  refine if_t (by cases w.gap <;> decide +kernel) ?_
  walk_at "gg"
  refine g_inTu (T.q_FOLDS _) rfl rfl ?_
  rw [show inV (.str (foldS w.fold)) [.str "both", .str "first", .str "refuse", .str "second"] = true by cases w.fold <;> decide +kernel]
  exact k
theorem ok_check_library (T : Txt w K mg) : FnOk P w K mg base CX0 3 T.f_check_library.f T.f_check_library.fd ["value"] (sp_check_library K) := by
  refine T.f_check_library.F.ok sc_check_library (fun vs H Q E h => ?_) (fun cdv A outer s H vs Q E hr h => ?_)
  · obtain ⟨wv, w, rfl, _⟩ := h
    rfl
  obtain ⟨wv, w, rfl, hw, k⟩ := h
  refine ⟨(tIfS (tNot (tB (tCall (sp_is_library K) [] E0 (tCons (tVar 0) tNil)))) tNever tNext),
    PSs.nox (pss_one (ps_if (pt_not (pt_val (pe_call (ok_is_library T) (hr.mono (by decide)) (by rfl) T.f_is_library.g T.f_is_library.F.kp T.f_is_library.b .nil pass0 (pa_cons (pv 0) pa_nil)))) (pss_one ps_never) pss_nil)), ?_⟩
  walk_at "gg"
  refine ⟨_, w, rfl, hw, ?_⟩
  walk_at "gg"
  exact k
end
/-! ### times and their instants -/
section
variable {w : Way} {z : Zone} (h : OkZ z)
include h
/-- a reading that does not grow: one falling change between -/
theorem OkZ.cross {T U : Int} (lt : U < T) (le : T + off z T ≤ U + off z U) :
    ∃ s, U < s ∧ s ≤ T ∧ T ≤ U + 3 ∧ off z T < off z U ∧ off z U ≤ off z T + 3 ∧ (∀ x, s - 12 ≤ x → x < s → off z x = off z U) ∧ (∀ x, s ≤ x → x ≤ s + 11 → off z x = off z T) := by
  have b := h.back lt le
  obtain ⟨s, s1, s2, s3, s4⟩ := h.near (t := U) (u := T) (by omega) (by omega)
  have c : s ≤ T := by
    by_cases c : s ≤ T
    · exact c
    · have := s2 T (by omega) (by omega)
      omega
  have f1 := s2 (s - 1) (by omega) (by omega)
  have f2 := s3 s (by omega) c
  have d := s4 c
  obtain ⟨c1, c2, c3, c4⟩ := h.chart (s := s) (by omega)
  exact ⟨s, s1, c, b, by omega, by omega, fun x x1 x2 => by rw [c1 x x1 x2, f1], fun x x1 x2 => by rw [c2 x x1 x2, f2]⟩
theorem tm_cases {t : Tm} (q : IsTm w z t) :
    (∃ T, insts z t.1 = [T] ∧ inst w z t = T ∧ t.2 = 0) ∨
    (∃ A B, insts z t.1 = [A, B] ∧ w.fold ≠ .refuse ∧ ((t.2 = 0 ∧ w.fold ≠ .second ∧ inst w z t = A) ∨ (t.2 = 0 ∧ w.fold = .second ∧ inst w z t = B) ∨ (t.2 = 1 ∧ w.fold = .both ∧ inst w z t = B))) ∨
    (insts z t.1 = [] ∧ w.gap = .keep ∧ t.2 = 0 ∧ inst w z t = t.1 - before z t.1) := by
  have l2 := h.le2 t.1
  have q0 := q
  unfold IsTm times at q
  match e : insts z t.1 with
  | [] =>
    rw [e] at q
    simp at q
    refine .inr (.inr ⟨rfl, q.1, by rw [q.2], ?_⟩)
    unfold inst
    rw [if_pos e]
  | [T] =>
    have p : t.2 = 0 := by
      rcases q0.pass with p | p
      · exact p
      · rw [e] at p
        simp at p
    refine .inl ⟨T, rfl, ?_, p⟩
    unfold inst
    rw [e, if_neg (by simp), p]
    split <;> rfl
  | [A, B] =>
    refine .inr (.inl ⟨A, B, rfl, ?_, ?_⟩)
    · intro c
      rw [e, c] at q
      simp at q
    · unfold inst
      rw [e, if_neg (by simp)]
      by_cases c : w.fold = .second
      · rw [if_pos c]
        rcases q0.pass with p | p
        · exact .inr (.inl ⟨p, c, rfl⟩)
        · rw [p.2.1] at c
          cases c
      · rw [if_neg c]
        rcases q0.pass with p | p
        · exact .inl ⟨p, c, by rw [p] <;> rfl⟩
        · exact .inr (.inr ⟨p.1, p.2.1, by rw [p.1] <;> rfl⟩)
  | a :: b :: c :: l => rw [e] at l2; simp at l2
/-- outside of gaps the instant has the reading -/
theorem inst_rd {t : Tm} (q : IsTm w z t) (c : insts z t.1 ≠ []) : inst w z t + off z (inst w z t) = t.1 := by
  rcases tm_cases h q with ⟨T, e, i, _⟩ | ⟨A, B, e, _, k⟩ | ⟨e, _⟩
  · rw [i]
    exact (insts_mem h).1 (by rw [e]; simp)
  · have p := h.pair e
    rcases k with ⟨_, _, i⟩ | ⟨_, _, i⟩ | ⟨_, _, i⟩ <;> rw [i]
    · exact p.2.1
    · exact p.2.2.1
    · exact p.2.2.1
  · exact (c e).elim
theorem at_one {T : Int} (e : insts z (T + off z T) = [T]) : at_ w z T = some (T + off z T, 0) := by
  unfold at_
  rw [e]
  simp
/-- F1: from the instant back to the time -/
theorem at_inst {t : Tm} (q : IsTm w z t) (c : insts z t.1 ≠ []) : at_ w z (inst w z t) = some t := by
  have r := inst_rd h q c
  unfold at_
  rw [r]
  obtain ⟨t1, t2⟩ := t
  rcases tm_cases h q with ⟨T, e, i, p⟩ | ⟨A, B, e, nr, k⟩ | ⟨e, _⟩
  · simp only at e p
    rw [e, i, p]
    simp
  · simp only at e k
    have pr := h.pair e
    rw [e, if_neg (fun q => nr q.2)]
    rcases k with ⟨p, f, i⟩ | ⟨p, f, i⟩ | ⟨p, f, i⟩
    · rw [i, p]
      simp
    · rw [i, p, f]
      simp
    · rw [i, p, f]
      have : ¬ B = A := by omega
      simp [this]
  · exact (c e).elim
/-- F2: from an instant to the time and back -/
theorem inst_at {T : Int} (c : w.fold = .both ∨ (insts z (T + off z T)).length ≠ 2) : ∃ t, at_ w z T = some t ∧ inst w z t = T ∧ t.1 = T + off z T ∧ IsTm w z t ∧ insts z t.1 ≠ [] := by
  have s := insts_self h T
  have l2 := h.le2 (T + off z T)
  have nr : ¬ ((insts z (T + off z T)).length = 2 ∧ w.fold = .refuse) := fun q => by
    rcases c with c | c
    · rw [q.2] at c
      cases c
    · exact c q.1
  have e : at_ w z T = some (T + off z T, if w.fold = .both ∧ T ≠ (insts z (T + off z T)).head?.getD 0 then 1 else 0) := by
    unfold at_
    rw [if_neg nr]
  generalize hp : (if w.fold = .both ∧ T ≠ (insts z (T + off z T)).head?.getD 0 then (1 : Int) else 0) = p at e
  have v := at_valid h e
  refine ⟨_, e, ?_, rfl, v.1, fun q => by rw [show insts z (T + off z T) = [] from q] at s; cases s⟩
  rcases tm_cases h v.1 with ⟨X, ex, i, _⟩ | ⟨A, B, ex, nr2, k⟩ | ⟨ex, _⟩
  · simp only at ex
    rw [ex] at s
    rw [i]
    exact (List.mem_singleton.mp s).symm
  · simp only at ex k
    rw [ex] at s c hp
    have cb : w.fold = .both := by
      rcases c with c | c
      · exact c
      · simp at c
    have pr := h.pair ex
    simp only [List.mem_cons, List.not_mem_nil, or_false] at s
    by_cases d : T = A
    · rw [if_neg (fun q => q.2 (show T = [A, B].head?.getD 0 from d))] at hp
      rcases k with ⟨_, _, i⟩ | ⟨_, f, _⟩ | ⟨f, _⟩
      · rw [i, d]
      · rw [cb] at f
        cases f
      · omega
    · rw [if_pos ⟨cb, (show T ≠ [A, B].head?.getD 0 from d)⟩] at hp
      rcases k with ⟨f, _⟩ | ⟨f, _⟩ | ⟨_, _, i⟩
      · omega
      · omega
      · rw [i]
        rcases s with s | s
        · exact (d s).elim
        · exact s.symm
  · simp only at ex
    rw [ex] at s
    cases s
/-- readings and instants rise alike, outside of gaps, where a fold has one pass -/
theorem mono_lt {t u : Tm} (qt : IsTm w z t) (qu : IsTm w z u) (ct : insts z t.1 ≠ []) (cu : insts z u.1 ≠ []) (cf : w.fold ≠ .both ∨ ((insts z t.1).length ≠ 2)) (lt : t.1 < u.1) : inst w z t < inst w z u := by
  have rt := inst_rd h qt ct
  have ru := inst_rd h qu cu
  by_cases c : inst w z t < inst w z u
  · exact c
  · have ne : inst w z u < inst w z t := by
      rcases Int.lt_or_eq_of_le (Int.not_lt.mp c) with d | d
      · exact d
      · rw [d] at ru
        omega
    obtain ⟨s, s1, s2, s3, s4, s5, s6, s7⟩ := h.cross ne (by omega)
    -- the other instants of both readings
    have x1 := s6 (t.1 - off z (inst w z u)) (by omega) (by omega)
    have x2 : t.1 - off z (inst w z u) ∈ insts z t.1 := (insts_mem h).2 (by omega)
    have y1 := s7 (u.1 - off z (inst w z t)) (by omega) (by omega)
    have y2 : u.1 - off z (inst w z t) ∈ insts z u.1 := (insts_mem h).2 (by omega)
    rcases tm_cases h qt with ⟨T, e, i, p⟩ | ⟨A, B, e, nr, k⟩ | ⟨e, _⟩
    · rw [e] at x2
      have := List.mem_singleton.mp x2
      omega
    · have fb : w.fold ≠ .both := by
        rcases cf with cf | cf
        · exact cf
        · rw [e] at cf
          simp at cf
      have pr := h.pair e
      rw [e] at x2
      simp only [List.mem_cons, List.not_mem_nil, or_false] at x2
      have sec : w.fold = .second := by
        rcases k with ⟨_, _, i⟩ | ⟨_, f, _⟩ | ⟨_, f, _⟩
        · omega
        · exact f
        · exact (fb f).elim
      rcases tm_cases h qu with ⟨T, e', i', p'⟩ | ⟨A', B', e', nr', k'⟩ | ⟨e', _⟩
      · rw [e'] at y2
        have := List.mem_singleton.mp y2
        omega
      · have pr' := h.pair e'
        rw [e'] at y2
        simp only [List.mem_cons, List.not_mem_nil, or_false] at y2
        rcases k' with ⟨_, f, _⟩ | ⟨_, _, i'⟩ | ⟨_, f, _⟩
        · exact (f sec).elim
        · omega
        · exact (fb f).elim
      · exact (cu e').elim
    · exact (ct e).elim
/-- one reading, one time -/
theorem tm_eq {t u : Tm} (qt : IsTm w z t) (qu : IsTm w z u) (cf : w.fold ≠ .both ∨ (insts z t.1).length ≠ 2) (e : t.1 = u.1) : t = u := by
  have p : ∀ x : Tm, IsTm w z x → x.1 = t.1 → x.2 = 0 := fun x qx ex => by
    rcases qx.pass with p | p
    · exact p
    · rcases cf with cf | cf
      · exact (cf p.2.1).elim
      · rw [ex] at p
        exact (cf p.2.2).elim
  exact Prod.ext e (by rw [p t qt rfl, p u qu e.symm])
/-- in a gap -/
theorem gap_at {rd s a b : Int} (G : InGap z rd s a b) : insts z (rd - b + off z (rd - b)) = [rd - b] ∧ off z (rd - b) = a ∧ s ≤ rd - b ∧ rd - b ≤ s + 2 := by
  have g1 := G.lt
  have g2 := G.le
  have g3 := G.lo
  have g4 := G.hi
  have o := G.aft (rd - b) (by omega) (by omega)
  refine ⟨h.one rfl fun x x1 x2 x3 x4 => ?_, o, by omega, by omega⟩
  by_cases c : x < s
  · have := G.bef x (by omega) c
    omega
  · have := G.aft x (by omega) (by omega)
    omega
/-- what comes later than a gap's change reads later than the gap -/
theorem gap_later {rd s a b T : Int} (G : InGap z rd s a b) (hT : s ≤ T) : rd < T + off z T := by
  have g4 := G.hi
  have o := G.aft s (by omega) (by omega)
  by_cases c : rd < T + off z T
  · exact c
  · have ne : s < T := by
      rcases Int.lt_or_eq_of_le hT with d | d
      · exact d
      · rw [← d] at c
        omega
    have := h.back ne (by omega)
    have := G.aft T (by omega) (by omega)
    omega
theorem gap_earlier {rd s a b T : Int} (G : InGap z rd s a b) (hT : T + off z T < rd) : T < s := by
  by_cases c : T < s
  · exact c
  · have := gap_later h G (T := T) (by omega)
    omega
end
/-! ### zones without gaps, without folds -/
def NoGap (z : Zone) : Prop := ∀ rd, insts z rd ≠ []
def NoFold (z : Zone) : Prop := ∀ rd, (insts z rd).length ≠ 2
theorem kind_up : ∀ (cs : List (Int × Int)) (b : Int) (s r : Bool), (kindGo b s r cs).2 = false → r = false ∧ (∀ u, b ≤ offGo u b cs) ∧ ∀ t u, t ≤ u → offGo t b cs ≤ offGo u b cs
  | [], b, s, r, e => ⟨e, fun u => Int.le_refl _, fun _ _ _ => Int.le_refl _⟩
  | p :: l, b, s, r, e => by
    rw [kindGo_cons] at e
    split at e
    next c =>
      obtain ⟨i1, i2, i3⟩ := kind_up l p.2 true r e
      refine ⟨i1, fun u => ?_, fun t u tu => ?_⟩
      · rw [offGo_cons]
        have := i2 u
        split <;> omega
      · rw [offGo_cons, offGo_cons]
        have := i2 u
        have := i3 t u tu
        split <;> split <;> omega
    next c =>
      have := (kind_up l p.2 s true e).1
      cases this
theorem kind_down : ∀ (cs : List (Int × Int)) (b : Int) (s r : Bool), (kindGo b s r cs).1 = false → s = false ∧ (∀ u, offGo u b cs ≤ b) ∧ ∀ t u, t ≤ u → offGo u b cs ≤ offGo t b cs
  | [], b, s, r, e => ⟨e, fun u => Int.le_refl _, fun _ _ _ => Int.le_refl _⟩
  | p :: l, b, s, r, e => by
    rw [kindGo_cons] at e
    split at e
    next c =>
      have := (kind_down l p.2 true r e).1
      cases this
    next c =>
      obtain ⟨i1, i2, i3⟩ := kind_down l p.2 s true e
      refine ⟨i1, fun u => ?_, fun t u tu => ?_⟩
      · rw [offGo_cons]
        have := i2 u
        split <;> omega
      · rw [offGo_cons, offGo_cons]
        have := i2 u
        have := i3 t u tu
        split <;> split <;> omega
theorem kind_flags {z : Zone} {k : Str} (e : kindOf z = k) : (k = "fixed" ∨ k = "skips" → (kindGo z.1 false false z.2).2 = false) ∧ (k = "fixed" ∨ k = "repeats" → (kindGo z.1 false false z.2).1 = false) := by
  unfold kindOf at e
  generalize kindGo z.1 false false z.2 = f at e
  have n1 : ("both" : Str) ≠ "fixed" := by decide +kernel
  have n2 : ("both" : Str) ≠ "skips" := by decide +kernel
  have n3 : ("both" : Str) ≠ "repeats" := by decide +kernel
  have n4 : ("skips" : Str) ≠ "fixed" := by decide +kernel
  have n5 : ("skips" : Str) ≠ "repeats" := by decide +kernel
  have n6 : ("repeats" : Str) ≠ "fixed" := by decide +kernel
  have n7 : ("repeats" : Str) ≠ "skips" := by decide +kernel
  match f with
  | (true, true) =>
    subst e
    exact ⟨fun q => q.elim (fun q => (n1 q).elim) (fun q => (n2 q).elim), fun q => q.elim (fun q => (n1 q).elim) (fun q => (n3 q).elim)⟩
  | (true, false) =>
    subst e
    exact ⟨fun _ => rfl, fun q => q.elim (fun q => (n4 q).elim) (fun q => (n5 q).elim)⟩
  | (false, true) =>
    subst e
    exact ⟨fun q => q.elim (fun q => (n6 q).elim) (fun q => (n7 q).elim), fun _ => rfl⟩
  | (false, false) => exact ⟨fun _ => rfl, fun _ => rfl⟩
theorem noFold_of {z : Zone} (h : OkZ z) {k : Str} (e : kindOf z = k) (c : k = "fixed" ∨ k = "skips") : NoFold z := by
  have up := (kind_up z.2 z.1 false false ((kind_flags e).1 c)).2.2
  intro rd l
  match q : insts z rd with
  | [] => rw [q] at l; cases l
  | [a] => rw [q] at l; cases l
  | [a, b] =>
    have p := h.pair q
    have := up a b (by omega)
    unfold off at p
    omega
  | a :: b :: c :: r => rw [q] at l; simp at l
theorem noGap_of {z : Zone} (h : OkZ z) {k : Str} (e : kindOf z = k) (c : k = "fixed" ∨ k = "repeats") : NoGap z := by
  have dn := (kind_down z.2 z.1 false false ((kind_flags e).2 c)).2.2
  intro rd l
  obtain ⟨s, a, b, G⟩ := h.gap l
  have f1 := G.bef (s - 1) (by omega) (by omega)
  have f2 := G.aft s (by omega) (by omega)
  have := G.lt
  have := dn (s - 1) s (by omega)
  unfold off at f1 f2
  omega
/-- no gaps, no folds: one offset -/
theorem const_of {z : Zone} (h : OkZ z) (ng : NoGap z) (nf : NoFold z) (T U : Int) : off z T = off z U := by
  have stp : ∀ s, off z s = off z (s - 1) := by
    intro s
    by_cases c : off z s = off z (s - 1)
    · exact c
    · obtain ⟨c1, c2, c3, c4⟩ := h.chart c
      by_cases d : off z s < off z (s - 1)
      · -- a fold: the reading s + off s
        have m1 : s ∈ insts z (s + off z s) := insts_self h s
        have x := c1 (s + off z s - off z (s - 1)) (by omega) (by omega)
        have m2 : s + off z s - off z (s - 1) ∈ insts z (s + off z s) := (insts_mem h).2 (by omega)
        have l := nf (s + off z s)
        have l2 := h.le2 (s + off z s)
        match q : insts z (s + off z s) with
        | [] => rw [q] at m1; cases m1
        | [a] =>
          rw [q] at m1 m2
          have := List.mem_singleton.mp m1
          have := List.mem_singleton.mp m2
          omega
        | [a, b] => rw [q] at l; exact (l rfl).elim
        | a :: b :: c :: r => rw [q] at l2; simp at l2
      · -- a gap: the reading s + off (s - 1)
        refine (ng (s + off z (s - 1)) ?_).elim
        cases q : insts z (s + off z (s - 1)) with
        | nil => rfl
        | cons T l =>
          have m := (insts_mem h (t := s + off z (s - 1)) (k := T)).1 (by rw [q]; simp)
          by_cases d1 : T < s
          · by_cases d2 : T = s - 1
            · rw [d2] at m
              omega
            · have := h.back (t := T) (u := s - 1) (by omega) (by omega)
              have := c1 T (by omega) d1
              omega
          · by_cases d2 : T = s
            · rw [d2] at m
              omega
            · have := h.back (t := s) (u := T) (by omega) (by omega)
              have := c2 T (by omega) (by omega)
              omega
  have go : ∀ (n : Nat) (T : Int), off z (T + n) = off z T := by
    intro n
    induction n with
    | zero =>
      intro T
      rw [show T + ((0 : Nat) : Int) = T by omega]
    | succ n ih =>
      intro T
      rw [stp, show T + ((n + 1 : Nat) : Int) - 1 = T + (n : Int) by omega]
      exact ih T
  rcases Int.le_total T U with q | q
  · have := go (U - T).toNat T
    rw [show T + ((U - T).toNat : Int) = U by omega] at this
    exact this.symm
  · have := go (T - U).toNat U
    rw [show U + ((T - U).toNat : Int) = T by omega] at this
    exact this
/-! ### the rules -/
inductive Rule where
  | fromU | toU | every | someR | there | sumD | elapsed | same | later | told | diff | ordDiff | eqOne | oneEq | oneOne | ordInst | kept | eqSums
  deriving DecidableEq
def ruleS : Rule → Str
  | .fromU => "from universal and back"
  | .toU => "to universal and back"
  | .every => "every reading"
  | .someR => "some reading"
  | .there => "there and back"
  | .sumD => "sum of durations"
  | .elapsed => "elapsed time"
  | .same => "same clock"
  | .later => "later"
  | .told => "sums told"
  | .diff => "difference recovers"
  | .ordDiff => "order by difference"
  | .eqOne => "equal means one instant"
  | .oneEq => "one instant means equal"
  | .oneOne => "one instant, one time"
  | .ordInst => "order of instants"
  | .kept => "order kept"
  | .eqSums => "equal sums"
/-- the two conditions: for skips, for repeats -/
def met (w : Way) : Rule → Bool × Bool
  | .fromU => (true, decide (w.fold = .both))
  | .toU => (!decide (w.gap = .keep), true)
  | .every => (decide (w.gap = .keep), !decide (w.fold = .refuse))
  | .someR => (!decide (w.gap = .refuse), !decide (w.fold = .refuse))
  | .there => (w.ws == decide (w.gap = .keep), if w.ws then (decide (w.fold = .first) || decide (w.fold = .second)) else decide (w.fold = .both))
  | .sumD => (!w.ws || decide (w.gap = .keep), if w.ws then !decide (w.fold = .refuse) else decide (w.fold = .both))
  | .elapsed => (!w.ws, decide (w.fold = .both) && !w.ws)
  | .same => (w.ws && decide (w.gap = .keep), w.ws && !decide (w.fold = .refuse))
  | .later => (!w.ws || (decide (w.gap = .shift) || (decide (w.gap = .keep) && w.wo)), decide (w.fold = .second) || ((w.ws && decide (w.fold = .first)) || (decide (w.fold = .both) && (w.ws == w.wo))))
  | .told => (!w.ws || !decide (w.gap = .refuse), !decide (w.fold = .refuse))
  | .diff => (w.ws || !decide (w.gap = .keep), !w.ws || !decide (w.fold = .both))
  | .ordDiff => ((w.ws == w.wo) || !decide (w.gap = .keep), (w.ws == w.wo) || !decide (w.fold = .both))
  | .eqOne => (true, !w.wo || !decide (w.fold = .both))
  | .oneEq => (!w.wo || !decide (w.gap = .keep), true)
  | .oneOne => (!decide (w.gap = .keep), true)
  | .ordInst => (!w.wo || !decide (w.gap = .keep), !w.wo || !decide (w.fold = .both))
  | .kept => (if w.ws then w.wo && decide (w.gap = .keep) else !w.wo || !decide (w.gap = .keep),
      if w.ws then (decide (w.fold = .first) || decide (w.fold = .second)) || (decide (w.fold = .both) && w.wo) else decide (w.fold = .both) && !w.wo)
  | .eqSums => (!w.ws || (decide (w.gap = .shift) || (decide (w.gap = .keep) && w.wo)), (decide (w.fold = .first) || decide (w.fold = .second)) || (decide (w.fold = .both) && (w.ws || !w.wo)))
/-! ### whether a rule holds for arguments -/
def fFrom (w : Way) (z : Zone) (T : Int) : Bool := match at_ w z T with
  | none => false
  | some t => decide (inst w z t = T)
def fTo (w : Way) (z : Zone) (t : Tm) : Bool := decide (at_ w z (inst w z t) = some t)
def fEvery (w : Way) (z : Zone) (rd : Int) : Bool := match read_ w z rd with
  | none => false
  | some t => decide (t.1 = rd)
def fSome (w : Way) (z : Zone) (rd : Int) : Bool := (read_ w z rd).isSome
def fSame (w : Way) (z : Zone) (t : Tm) : Bool := match addT w z (some t) 24 with
  | none => false
  | some u => decide (u.1 = t.1 + 24)
def fMoved (w : Way) (z : Zone) (r : Rule) (t : Tm) (d e : Int) : Bool := match addT w z (some t) d with
  | none => decide (r = .later) && decide (d ≤ 0)
  | some a => match r with
    | .there => decide (addT w z (some a) (0 - d) = some t)
    | .sumD => (match addT w z (some a) e with
      | none => false
      | some b => decide (some b = addT w z (some t) (d + e)))
    | .elapsed => decide (inst w z a - inst w z t = d)
    | .told => true
    | _ => decide (d ≤ 0) || decide (cmp (key w z t) (key w z a) = -1)
def fTwo (w : Way) (z : Zone) (r : Rule) (t u : Tm) (d : Int) : Bool := match r with
  | .diff => decide (addT w z (some t) (less_ w z u t) = some u)
  | .ordDiff => decide (cmp (key w z t) (key w z u) < 0) == decide (less_ w z u t > 0)
  | .ordInst => decide (cmp (key w z t) (key w z u) < 0) == decide (inst w z t < inst w z u)
  | .kept => !decide (cmp (key w z t) (key w z u) = -1) || decide (order w z (addT w z (some t) d) (addT w z (some u) d) = some (-1))
  | .eqSums => !decide (cmp (key w z t) (key w z u) = 0) || decide (order w z (addT w z (some t) d) (addT w z (some u) d) = some 0)
  | .eqOne => !decide (cmp (key w z t) (key w z u) = 0) || decide (inst w z t = inst w z u)
  | .oneEq => !decide (inst w z t = inst w z u) || decide (cmp (key w z t) (key w z u) = 0)
  | _ => !decide (inst w z t = inst w z u) || decide (t = u)
/-! ### comparing -/
theorem cmp_lt {a b : Int} : cmp a b = -1 ↔ a < b := by
  unfold cmp
  split <;> (try split) <;> omega
theorem cmp_eq {a b : Int} : cmp a b = 0 ↔ a = b := by
  unfold cmp
  split <;> (try split) <;> omega
theorem cmp_neg {a b : Int} : cmp a b < 0 ↔ a < b := by
  unfold cmp
  split <;> (try split) <;> omega
section
variable {w : Way} {z : Zone} (h : OkZ z)
include h
theorem out_gap {t : Tm} (q : IsTm w z t) (c : w.gap ≠ .keep ∨ NoGap z) : insts z t.1 ≠ [] := by
  intro e
  rcases c with c | c
  · rcases tm_cases h q with ⟨T, e', _⟩ | ⟨A, B, e', _⟩ | ⟨_, k, _⟩
    · rw [e] at e'; cases e'
    · rw [e] at e'; cases e'
    · exact c k
  · exact c _ e
theorem read_plain {rd : Int} (c : insts z rd = [] → w.gap = .keep) (nr : w.fold ≠ .refuse ∨ NoFold z) : read_ w z rd = some (rd, 0) := by
  unfold read_
  by_cases e : insts z rd = []
  · rw [if_pos e, c e]
  · rw [if_neg e, if_neg]
    rintro ⟨q1, q2⟩
    rcases nr with nr | nr
    · exact nr q1
    · exact nr rd q2
theorem at_told (T : Int) (nr : w.fold ≠ .refuse ∨ NoFold z) : ∃ t, at_ w z T = some t ∧ IsTm w z t ∧ t.1 = T + off z T ∧ insts z t.1 ≠ [] := by
  have e : at_ w z T = some (T + off z T, if w.fold = .both ∧ T ≠ (insts z (T + off z T)).head?.getD 0 then 1 else 0) := by
    unfold at_
    rw [if_neg]
    rintro ⟨q1, q2⟩
    rcases nr with nr | nr
    · exact nr q2
    · exact nr _ q1
  have v := at_valid h e
  refine ⟨_, e, v.1, rfl, fun q => ?_⟩
  have s := insts_self h T
  rw [show insts z (T + off z T) = [] from q] at s
  cases s
/-- a read gives the reading itself, or a later one behind a gap -/
theorem read_told (rd : Int) (cg : w.gap ≠ .refuse ∨ NoGap z) (nr : w.fold ≠ .refuse ∨ NoFold z) :
    (read_ w z rd = some (rd, 0) ∧ (insts z rd = [] → w.gap = .keep)) ∨ (∃ s a b, InGap z rd s a b ∧ w.gap = .shift ∧ read_ w z rd = some (rd - b + a, 0) ∧ insts z (rd - b + a) = [rd - b] ∧ s ≤ rd - b) := by
  by_cases e : insts z rd = []
  · cases hg : w.gap with
    | keep => exact .inl ⟨read_plain h (fun _ => hg) nr, fun _ => rfl⟩
    | refuse =>
      rcases cg with cg | cg
      · exact (cg hg).elim
      · exact (cg _ e).elim
    | shift =>
      obtain ⟨s, a, b, G⟩ := h.gap e
      obtain ⟨g1, g2, g3, g4⟩ := gap_at h G
      refine .inr ⟨s, a, b, G, rfl, ?_, by rw [g2] at g1; exact g1, g3⟩
      unfold read_
      rw [if_pos e, hg]
      show at_ w z (rd - before z rd) = _
      rw [G.bf, at_one h g1, g2]
  · exact .inl ⟨read_plain h (fun q => (e q).elim) nr, fun q => (e q).elim⟩
theorem pass_of {rd : Int} {t : Tm} (e : read_ w z rd = some t) : IsTm w z t := read_valid h e
theorem inst_one {t : Tm} {T : Int} (q : IsTm w z t) (e : insts z t.1 = [T]) : inst w z t = T := by
  have r := inst_rd h q (by rw [e]; simp)
  have m := (insts_mem h).2 r
  rw [e] at m
  exact List.mem_singleton.mp m
/-! ### one argument -/
theorem r_from (T : Int) (hR : w.fold = .both ∨ NoFold z) : fFrom w z T = true := by
  obtain ⟨t, e, i, _⟩ := inst_at (w := w) h (T := T) (hR.imp id fun q => q _)
  unfold fFrom
  rw [e]
  exact decide_eq_true i
theorem r_to {t : Tm} (q : IsTm w z t) (hS : w.gap ≠ .keep ∨ NoGap z) : fTo w z t = true := decide_eq_true (at_inst h q (out_gap h q hS))
theorem r_every (rd : Int) (hS : w.gap = .keep ∨ NoGap z) (hR : w.fold ≠ .refuse ∨ NoFold z) : fEvery w z rd = true := by
  unfold fEvery
  rw [read_plain h (fun e => hS.elim id fun q => (q _ e).elim) hR]
  exact decide_eq_true rfl
theorem r_some (rd : Int) (hS : w.gap ≠ .refuse ∨ NoGap z) (hR : w.fold ≠ .refuse ∨ NoFold z) : fSome w z rd = true := by
  unfold fSome
  rcases read_told h rd hS hR with ⟨e, _⟩ | ⟨_, _, _, _, _, e, _⟩ <;> rw [e] <;> rfl
theorem add_w {t : Tm} {d : Int} (c : w.ws = true) : addT w z (some t) d = read_ w z (t.1 + d) := by
  unfold addT
  rw [c]
  rfl
theorem add_e {t : Tm} {d : Int} (c : w.ws = false) : addT w z (some t) d = at_ w z (inst w z t + d) := by
  unfold addT
  rw [c]
  rfl
theorem r_same {t : Tm} (q : IsTm w z t) (hS : (w.ws = true ∧ w.gap = .keep) ∨ NoGap z) (hR : (w.ws = true ∧ w.fold ≠ .refuse) ∨ NoFold z) : fSame w z t = true := by
  have nr : w.fold ≠ .refuse ∨ NoFold z := hR.imp (fun q => q.2) id
  unfold fSame
  cases c : w.ws with
  | true =>
    rw [add_w h c, read_plain h (fun e => hS.elim (fun q => q.2) fun q => (q _ e).elim) nr]
    exact decide_eq_true rfl
  | false =>
    have ng : NoGap z := hS.elim (fun q => by rw [c] at q; cases q.1) id
    have nf : NoFold z := hR.elim (fun q => by rw [c] at q; cases q.1) id
    obtain ⟨u, e, _, r, _⟩ := at_told (w := w) h (inst w z t + 24) nr
    rw [add_e h c, e]
    refine decide_eq_true ?_
    have := inst_rd h q (ng _)
    have := const_of h ng nf (inst w z t + 24) (inst w z t)
    omega
/-! ### a time and durations -/
theorem r_there {t : Tm} (q : IsTm w z t) (d e : Int) (hS : (w.ws = true ∧ w.gap = .keep) ∨ (w.ws = false ∧ w.gap ≠ .keep) ∨ NoGap z) (hR : (w.ws = true ∧ (w.fold = .first ∨ w.fold = .second)) ∨ (w.ws = false ∧ w.fold = .both) ∨ NoFold z) : fMoved w z .there t d e = true := by
  have nr : w.fold ≠ .refuse ∨ NoFold z := by
    rcases hR with ⟨_, f | f⟩ | ⟨_, f⟩ | f
    · exact .inl (by rw [f]; simp)
    · exact .inl (by rw [f]; simp)
    · exact .inl (by rw [f]; simp)
    · exact .inr f
  unfold fMoved
  cases c : w.ws with
  | true =>
    have kp : ∀ rd, insts z rd = [] → w.gap = .keep := fun rd e => by
      rcases hS with q | q | q
      · exact q.2
      · rw [c] at q; cases q.1
      · exact (q _ e).elim
    rw [add_w h c, read_plain h (kp _) nr]
    simp only
    rw [add_w h c, read_plain h (kp _) nr]
    have p0 : t.2 = 0 := by
      rcases q.pass with p | p
      · exact p
      · rcases hR with ⟨_, f | f⟩ | ⟨f, _⟩ | f
        · rw [f] at p; cases p.2.1
        · rw [f] at p; cases p.2.1
        · rw [c] at f; cases f
        · exact (f _ p.2.2).elim
    refine decide_eq_true ?_
    show some (t.1 + d + (0 - d), (0 : Int)) = some t
    rw [show t.1 + d + (0 - d) = t.1 by omega, ← p0]
  | false =>
    have og := out_gap h q (hS.elim (fun q => by rw [c] at q; cases q.1) fun q => q.imp (fun q => q.2) id)
    obtain ⟨u, e1, i1, r1, v1, g1⟩ := inst_at (w := w) h (T := inst w z t + d) (by
      rcases hR with ⟨f, _⟩ | ⟨_, f⟩ | f
      · rw [c] at f; cases f
      · exact .inl f
      · exact .inr (f _))
    rw [add_e h c, e1]
    simp only
    rw [add_e h c, i1, show inst w z t + d + (0 - d) = inst w z t by omega]
    exact decide_eq_true (at_inst h q og)
theorem r_sum {t : Tm} (q : IsTm w z t) (d e : Int) (hS : w.ws = false ∨ w.gap = .keep ∨ NoGap z) (hR : (w.ws = true ∧ w.fold ≠ .refuse) ∨ (w.ws = false ∧ w.fold = .both) ∨ NoFold z) : fMoved w z .sumD t d e = true := by
  unfold fMoved
  cases c : w.ws with
  | true =>
    have nr : w.fold ≠ .refuse ∨ NoFold z := by
      rcases hR with f | f | f
      · exact .inl f.2
      · rw [c] at f; cases f.1
      · exact .inr f
    have kp : ∀ rd, insts z rd = [] → w.gap = .keep := fun rd e => by
      rcases hS with q | q | q
      · rw [c] at q; cases q
      · exact q
      · exact (q _ e).elim
    rw [add_w h c, read_plain h (kp _) nr]
    simp only
    rw [add_w h c, read_plain h (kp _) nr, add_w h c, read_plain h (kp _) nr]
    simp only
    exact decide_eq_true (by rw [Int.add_assoc])
  | false =>
    have c2 : ∀ T, w.fold = .both ∨ (insts z (T + off z T)).length ≠ 2 := fun T => by
      rcases hR with f | f | f
      · rw [c] at f; cases f.1
      · exact .inl f.2
      · exact .inr (f _)
    obtain ⟨u, e1, i1, r1, v1, g1⟩ := inst_at (w := w) h (T := inst w z t + d) (c2 _)
    obtain ⟨v, e2, i2, r2, v2, g2⟩ := inst_at (w := w) h (T := inst w z t + d + e) (c2 _)
    rw [add_e h c, e1]
    simp only
    rw [add_e h c, i1, e2, add_e h c, show inst w z t + (d + e) = inst w z t + d + e by omega, e2]
    exact decide_eq_true rfl
theorem r_elapsed {t : Tm} (q : IsTm w z t) (d e : Int) (hS : w.ws = false ∨ NoGap z) (hR : (w.ws = false ∧ w.fold = .both) ∨ NoFold z) : fMoved w z .elapsed t d e = true := by
  unfold fMoved
  cases c : w.ws with
  | true =>
    have ng : NoGap z := hS.elim (fun q => by rw [c] at q; cases q) id
    have nf : NoFold z := hR.elim (fun q => by rw [c] at q; cases q.1) id
    have rp := read_plain (w := w) h (rd := t.1 + d) (fun e => (ng _ e).elim) (.inr nf)
    rw [add_w h c, rp]
    refine decide_eq_true ?_
    have v := read_valid h rp
    have := inst_rd h q (ng _)
    have := inst_rd h v (ng _)
    have := const_of h ng nf (inst w z (t.1 + d, 0)) (inst w z t)
    show inst w z (t.1 + d, 0) - inst w z t = d
    simp only at *
    omega
  | false =>
    obtain ⟨u, e1, i1, r1, v1, g1⟩ := inst_at (w := w) h (T := inst w z t + d) (hR.imp (fun q => q.2) fun q => q _)
    rw [add_e h c, e1]
    exact decide_eq_true (by rw [i1]; omega)
theorem r_told {t : Tm} (q : IsTm w z t) (d e : Int) (hS : w.ws = false ∨ w.gap ≠ .refuse ∨ NoGap z) (hR : w.fold ≠ .refuse ∨ NoFold z) : fMoved w z .told t d e = true := by
  unfold fMoved
  cases c : w.ws with
  | true =>
    rw [add_w h c]
    rcases read_told h (t.1 + d) (hS.elim (fun q => by rw [c] at q; cases q) id) hR with ⟨e, _⟩ | ⟨_, _, _, _, _, e, _⟩ <;> rw [e] <;> rfl
  | false =>
    obtain ⟨u, e1, _⟩ := at_told (w := w) h (inst w z t + d) hR
    rw [add_e h c, e1]
end
section
variable {w : Way} {z : Zone} (h : OkZ z)
include h
theorem read_tm {u : Tm} (q : IsTm w z u) (p : u.2 = 0) : read_ w z u.1 = some u := by
  have e : some (u.1, (0 : Int)) = some u := by rw [← p]
  rw [← e]
  unfold read_
  rcases tm_cases h q with ⟨T, e', _⟩ | ⟨A, B, e', nr, _⟩ | ⟨e', k, _⟩
  · rw [e', if_neg (by simp), if_neg (by simp)]
  · rw [e', if_neg (by simp), if_neg (fun q => nr q.1)]
  · rw [if_pos e', k]
theorem pass0_of {u : Tm} (q : IsTm w z u) (cf : w.fold ≠ .both ∨ NoFold z) : u.2 = 0 := by
  rcases q.pass with p | p
  · exact p
  · rcases cf with cf | cf
    · exact (cf p.2.1).elim
    · exact (cf _ p.2.2).elim
theorem mono_iff {t u : Tm} (qt : IsTm w z t) (qu : IsTm w z u) (ct : insts z t.1 ≠ []) (cu : insts z u.1 ≠ []) (cf : w.fold ≠ .both ∨ NoFold z) : t.1 < u.1 ↔ inst w z t < inst w z u := by
  have cf' : ∀ x : Tm, w.fold ≠ .both ∨ (insts z x.1).length ≠ 2 := fun x => cf.imp id fun q => q _
  constructor
  · exact mono_lt h qt qu ct cu (cf' t)
  · intro lt
    rcases Int.lt_trichotomy t.1 u.1 with c | c | c
    · exact c
    · rw [tm_eq h qt qu (cf' t) c] at lt
      omega
    · have := mono_lt h qu qt cu ct (cf' u) c
      omega
theorem nofold_lt (nf : NoFold z) {X Y : Int} (lt : X < Y) : X + off z X < Y + off z Y := by
  by_cases c : X + off z X < Y + off z Y
  · exact c
  · obtain ⟨s, s1, s2, s3, s4, s5, s6, s7⟩ := h.cross lt (by omega)
    have y := s7 (X + off z X - off z Y) (by omega) (by omega)
    have m1 := insts_self h X
    have m2 : X + off z X - off z Y ∈ insts z (X + off z X) := (insts_mem h).2 (by omega)
    have l := nf (X + off z X)
    have l2 := h.le2 (X + off z X)
    match q : insts z (X + off z X) with
    | [] => rw [q] at m1; cases m1
    | [a] =>
      rw [q] at m1 m2
      have := List.mem_singleton.mp m1
      have := List.mem_singleton.mp m2
      omega
    | [a, b] => rw [q] at l; exact (l rfl).elim
    | a :: b :: c :: r => rw [q] at l2; simp at l2
theorem key_w {t : Tm} (c : w.wo = true) : key w z t = t.1 := by
  unfold key
  rw [c]
  rfl
theorem key_e {t : Tm} (c : w.wo = false) : key w z t = inst w z t := by
  unfold key
  rw [c]
  rfl
/-! ### two times -/
theorem r_diff {t u : Tm} (qt : IsTm w z t) (qu : IsTm w z u) (d : Int) (hS : w.ws = true ∨ w.gap ≠ .keep ∨ NoGap z) (hR : w.ws = false ∨ w.fold ≠ .both ∨ NoFold z) : fTwo w z .diff t u d = true := by
  unfold fTwo less_
  refine decide_eq_true ?_
  cases c : w.ws with
  | true =>
    rw [if_pos rfl, add_w h c, show t.1 + (u.1 - t.1) = u.1 by omega]
    exact read_tm h qu (pass0_of h qu (hR.elim (fun q => by rw [c] at q; cases q) id))
  | false =>
    rw [if_neg (by decide), add_e h c, show inst w z t + (inst w z u - inst w z t) = inst w z u by omega]
    exact at_inst h qu (out_gap h qu (hS.elim (fun q => by rw [c] at q; cases q) id))
theorem r_ordInst {t u : Tm} (qt : IsTm w z t) (qu : IsTm w z u) (d : Int) (hS : w.wo = false ∨ w.gap ≠ .keep ∨ NoGap z) (hR : w.wo = false ∨ w.fold ≠ .both ∨ NoFold z) : fTwo w z .ordInst t u d = true := by
  unfold fTwo
  refine beq_iff_eq.mpr (decide_eq_decide.mpr ?_)
  rw [cmp_neg]
  cases c : w.wo with
  | false => rw [key_e h c, key_e h c]
  | true =>
    have f : ∀ {p : Prop}, (w.wo = false ∨ p) → p := fun q => q.elim (fun q => by rw [c] at q; cases q) id
    rw [key_w h c, key_w h c]
    exact mono_iff h qt qu (out_gap h qt (f hS)) (out_gap h qu (f hS)) (f hR)
theorem r_ordDiff {t u : Tm} (qt : IsTm w z t) (qu : IsTm w z u) (d : Int) (hS : w.ws = w.wo ∨ w.gap ≠ .keep ∨ NoGap z) (hR : w.ws = w.wo ∨ w.fold ≠ .both ∨ NoFold z) : fTwo w z .ordDiff t u d = true := by
  unfold fTwo less_
  refine beq_iff_eq.mpr (decide_eq_decide.mpr ?_)
  rw [cmp_neg]
  by_cases al : w.ws = w.wo
  · cases c : w.wo with
    | true =>
      rw [c] at al
      rw [key_w h c, key_w h c, al, if_pos rfl]
      omega
    | false =>
      rw [c] at al
      rw [key_e h c, key_e h c, al, if_neg (by decide)]
      omega
  · have m := mono_iff h qt qu (out_gap h qt (hS.resolve_left al)) (out_gap h qu (hS.resolve_left al)) (hR.resolve_left al)
    cases c : w.wo with
    | true =>
      have c2 : w.ws = false := by
        cases e : w.ws with
        | false => rfl
        | true => rw [e, c] at al; exact (al rfl).elim
      rw [key_w h c, key_w h c, c2, if_neg (by decide), m]
      omega
    | false =>
      have c2 : w.ws = true := by
        cases e : w.ws with
        | true => rfl
        | false => rw [e, c] at al; exact (al rfl).elim
      rw [key_e h c, key_e h c, c2, if_pos rfl, ← m]
      omega
theorem imp_b {p q : Prop} [Decidable p] [Decidable q] (i : p → q) : (!decide p || decide q) = true := by
  by_cases c : p
  · rw [decide_eq_true c, decide_eq_true (i c)]
    rfl
  · rw [decide_eq_false c]
    rfl
theorem r_eqOne {t u : Tm} (qt : IsTm w z t) (qu : IsTm w z u) (d : Int) (hR : w.wo = false ∨ w.fold ≠ .both ∨ NoFold z) : fTwo w z .eqOne t u d = true := by
  unfold fTwo
  refine imp_b h fun e => ?_
  rw [cmp_eq] at e
  cases c : w.wo with
  | false =>
    rw [key_e h c, key_e h c] at e
    exact e
  | true =>
    rw [key_w h c, key_w h c] at e
    rw [tm_eq h qt qu ((hR.elim (fun q => by rw [c] at q; cases q) id).imp id fun q => q _) e]
theorem r_oneEq {t u : Tm} (qt : IsTm w z t) (qu : IsTm w z u) (d : Int) (hS : w.wo = false ∨ w.gap ≠ .keep ∨ NoGap z) : fTwo w z .oneEq t u d = true := by
  unfold fTwo
  refine imp_b h fun e => ?_
  rw [cmp_eq]
  cases c : w.wo with
  | false =>
    rw [key_e h c, key_e h c]
    exact e
  | true =>
    have g := hS.elim (fun q => by rw [c] at q; cases q) id
    have r1 := inst_rd h qt (out_gap h qt g)
    have r2 := inst_rd h qu (out_gap h qu g)
    rw [key_w h c, key_w h c, ← r1, ← r2, e]
theorem r_oneOne {t u : Tm} (qt : IsTm w z t) (qu : IsTm w z u) (d : Int) (hS : w.gap ≠ .keep ∨ NoGap z) : fTwo w z .oneOne t u d = true := by
  unfold fTwo
  refine imp_b h fun e => ?_
  have r1 := at_inst h qt (out_gap h qt hS)
  have r2 := at_inst h qu (out_gap h qu hS)
  rw [e, r2] at r1
  exact (Option.some.inj r1).symm
theorem r_later {t : Tm} (q : IsTm w z t) (d e : Int) (hS : w.ws = false ∨ w.gap = .shift ∨ (w.gap = .keep ∧ w.wo = true) ∨ NoGap z)
    (hR : w.fold = .second ∨ (w.ws = true ∧ w.fold = .first) ∨ (w.fold = .both ∧ w.ws = w.wo) ∨ NoFold z) : fMoved w z .later t d e = true := by
  have nr : w.fold ≠ .refuse ∨ NoFold z := by
    rcases hR with f | ⟨_, f⟩ | ⟨f, _⟩ | f
    · exact .inl (by rw [f]; simp)
    · exact .inl (by rw [f]; simp)
    · exact .inl (by rw [f]; simp)
    · exact .inr f
  have main : d ≤ 0 ∨ ∃ a, addT w z (some t) d = some a ∧ key w z t < key w z a := by
    by_cases d0 : d ≤ 0
    · exact .inl d0
    refine .inr ?_
    cases c : w.ws with
    | false =>
      rw [add_e h c]
      obtain ⟨u, e1, v1, r1, g1⟩ := at_told (w := w) h (inst w z t + d) nr
      refine ⟨u, e1, ?_⟩
      cases c2 : w.wo with
      | false =>
        rw [key_e h c2, key_e h c2]
        have X : inst w z t + d ∈ insts z u.1 := by rw [r1]; exact insts_self h _
        by_cases sec : w.fold = .second
        · rcases tm_cases h v1 with ⟨T, e', i, _⟩ | ⟨A, B, e', _, k⟩ | ⟨e', _⟩
          · rw [e'] at X
            have := List.mem_singleton.mp X
            omega
          · have pr := h.pair e'
            rw [e'] at X
            simp only [List.mem_cons, List.not_mem_nil, or_false] at X
            rcases k with ⟨_, f, _⟩ | ⟨_, _, i⟩ | ⟨_, f, _⟩
            · exact (f sec).elim
            · omega
            · rw [sec] at f; cases f
          · exact (g1 e').elim
        · obtain ⟨u', e2, i2, _⟩ := inst_at (w := w) h (T := inst w z t + d) (by
            rcases hR with f | ⟨f, _⟩ | ⟨f, _⟩ | f
            · exact (sec f).elim
            · rw [c] at f; cases f
            · exact .inl f
            · exact .inr (f _))
          rw [e1] at e2
          have e3 := Option.some.inj e2
          rw [e3, i2]
          omega
      | true =>
        rw [key_w h c2, key_w h c2, r1]
        have sn : w.fold = .second ∨ NoFold z := by
          rcases hR with f | ⟨f, _⟩ | ⟨_, f⟩ | f
          · exact .inl f
          · rw [c] at f; cases f
          · rw [c, c2] at f; cases f
          · exact .inr f
        by_cases g : insts z t.1 = []
        · obtain ⟨s, a, b, G⟩ := h.gap g
          rcases tm_cases h q with ⟨T, e', _⟩ | ⟨A, B, e', _⟩ | ⟨_, _, _, i⟩
          · rw [g] at e'; cases e'
          · rw [g] at e'; cases e'
          · rw [G.bf] at i
            have := G.lo
            exact gap_later h G (by omega)
        · have rt := inst_rd h q g
          by_cases cc : t.1 < inst w z t + d + off z (inst w z t + d)
          · exact cc
          · obtain ⟨s, s1, s2, s3, s4, s5, s6, s7⟩ := h.cross (U := inst w z t) (T := inst w z t + d) (by omega) (by omega)
            have y := s7 (t.1 - off z (inst w z t + d)) (by omega) (by omega)
            have m2 : t.1 - off z (inst w z t + d) ∈ insts z t.1 := (insts_mem h).2 (by omega)
            rcases tm_cases h q with ⟨T, e', i, _⟩ | ⟨A, B, e', _, k⟩ | ⟨e', _⟩
            · rw [e'] at m2
              have := List.mem_singleton.mp m2
              omega
            · have pr := h.pair e'
              rcases sn with sn | sn
              · rw [e'] at m2
                simp only [List.mem_cons, List.not_mem_nil, or_false] at m2
                rcases k with ⟨_, f, _⟩ | ⟨_, _, i⟩ | ⟨_, f, _⟩
                · exact (f sn).elim
                · omega
                · rw [sn] at f; cases f
              · exact (sn _ (by rw [e'] <;> rfl)).elim
            · exact (g e').elim
    | true =>
      rw [add_w h c]
      have cg : w.gap ≠ .refuse ∨ NoGap z := by
        rcases hS with f | f | ⟨f, _⟩ | f
        · rw [c] at f; cases f
        · exact .inl (by rw [f]; simp)
        · exact .inl (by rw [f]; simp)
        · exact .inr f
      have eg : w.wo = false → w.gap ≠ .keep ∨ NoGap z := fun c2 => by
        rcases hS with f | f | ⟨_, f⟩ | f
        · rw [c] at f; cases f
        · exact .inl (by rw [f]; simp)
        · rw [c2] at f; cases f
        · exact .inr f
      rcases read_told h (t.1 + d) cg nr with ⟨e1, kp⟩ | ⟨s, a, b, G, sh, e1, one, sle⟩
      · refine ⟨_, e1, ?_⟩
        cases c2 : w.wo with
        | true =>
          rw [key_w h c2, key_w h c2]
          show t.1 < t.1 + d
          omega
        | false =>
          rw [key_e h c2, key_e h c2]
          have v := read_valid h e1
          refine mono_lt h q v (out_gap h q (eg c2)) (out_gap h v (eg c2)) ?_ (by show t.1 < t.1 + d; omega)
          rcases hR with f | ⟨_, f⟩ | ⟨_, f⟩ | f
          · exact .inl (by rw [f]; simp)
          · exact .inl (by rw [f]; simp)
          · rw [c, c2] at f; cases f
          · exact .inr (f _)
      · refine ⟨_, e1, ?_⟩
        have v := read_valid h e1
        have := G.lt
        cases c2 : w.wo with
        | true =>
          rw [key_w h c2, key_w h c2]
          show t.1 < t.1 + d - b + a
          omega
        | false =>
          rw [key_e h c2, key_e h c2, inst_one h v one]
          have rt := inst_rd h q (out_gap h q (eg c2))
          have := gap_earlier h G (T := inst w z t) (by omega)
          omega
  unfold fMoved
  rcases main with m | ⟨a, e1, lt⟩
  · cases addT w z (some t) d with
    | none => simp [m]
    | some a => simp [m]
  · rw [e1]
    show (decide (d ≤ 0) || decide (cmp (key w z t) (key w z a) = -1)) = true
    rw [decide_eq_true (cmp_lt.mpr lt), Bool.or_true]
theorem order_some {a b : Tm} : order w z (some a) (some b) = some (cmp (key w z a) (key w z b)) := rfl
theorem r_kept {t u : Tm} (qt : IsTm w z t) (qu : IsTm w z u) (d : Int) (hS : (w.ws = true ∧ w.wo = true ∧ w.gap = .keep) ∨ (w.ws = false ∧ (w.wo = false ∨ w.gap ≠ .keep)) ∨ NoGap z)
    (hR : (w.ws = true ∧ (w.fold = .first ∨ w.fold = .second)) ∨ (w.ws = true ∧ w.fold = .both ∧ w.wo = true) ∨ (w.ws = false ∧ w.fold = .both ∧ w.wo = false) ∨ NoFold z) : fTwo w z .kept t u d = true := by
  unfold fTwo
  refine imp_b h fun e => ?_
  rw [cmp_lt] at e
  cases c : w.ws with
  | false =>
    rw [add_e h c, add_e h c]
    cases c2 : w.wo with
    | false =>
      have cc : ∀ T, w.fold = .both ∨ (insts z (T + off z T)).length ≠ 2 := fun T => by
        rcases hR with ⟨f, _⟩ | ⟨f, _⟩ | ⟨_, f, _⟩ | f
        · rw [c] at f; cases f
        · rw [c] at f; cases f
        · exact .inl f
        · exact .inr (f _)
      obtain ⟨a, e1, i1, _⟩ := inst_at (w := w) h (T := inst w z t + d) (cc _)
      obtain ⟨b, e2, i2, _⟩ := inst_at (w := w) h (T := inst w z u + d) (cc _)
      rw [key_e h c2, key_e h c2] at e
      rw [e1, e2, order_some h, key_e h c2, key_e h c2, i1, i2, cmp_lt.mpr (by omega)]
    | true =>
      have nf : NoFold z := by
        rcases hR with ⟨f, _⟩ | ⟨f, _⟩ | ⟨_, _, f⟩ | f
        · rw [c] at f; cases f
        · rw [c] at f; cases f
        · rw [c2] at f; cases f
        · exact f
      have g : w.gap ≠ .keep ∨ NoGap z := by
        rcases hS with ⟨f, _⟩ | ⟨_, f⟩ | f
        · rw [c] at f; cases f
        · rcases f with f | f
          · rw [c2] at f; cases f
          · exact .inl f
        · exact .inr f
      rw [key_w h c2, key_w h c2] at e
      have lt := mono_lt h qt qu (out_gap h qt g) (out_gap h qu g) (.inr (nf _)) e
      obtain ⟨a, e1, _, r1, _⟩ := at_told (w := w) h (inst w z t + d) (.inr nf)
      obtain ⟨b, e2, _, r2, _⟩ := at_told (w := w) h (inst w z u + d) (.inr nf)
      have := nofold_lt h nf (X := inst w z t + d) (Y := inst w z u + d) (by omega)
      rw [e1, e2, order_some h, key_w h c2, key_w h c2, cmp_lt.mpr (by omega)]
  | true =>
    have nr : w.fold ≠ .refuse ∨ NoFold z := by
      rcases hR with ⟨_, f | f⟩ | ⟨_, f, _⟩ | ⟨_, f, _⟩ | f
      · exact .inl (by rw [f]; simp)
      · exact .inl (by rw [f]; simp)
      · exact .inl (by rw [f]; simp)
      · exact .inl (by rw [f]; simp)
      · exact .inr f
    have kp : ∀ rd, insts z rd = [] → w.gap = .keep := fun rd e => by
      rcases hS with ⟨_, _, q⟩ | ⟨q, _⟩ | q
      · exact q
      · rw [c] at q; cases q
      · exact (q _ e).elim
    have e1 := read_plain (w := w) h (rd := t.1 + d) (kp _) nr
    have e2 := read_plain (w := w) h (rd := u.1 + d) (kp _) nr
    rw [add_w h c, add_w h c, e1, e2, order_some h]
    cases c2 : w.wo with
    | true =>
      rw [key_w h c2, key_w h c2] at e
      rw [key_w h c2, key_w h c2, cmp_lt.mpr (by show t.1 + d < u.1 + d; omega)]
    | false =>
      have ng : NoGap z := by
        rcases hS with ⟨_, f, _⟩ | ⟨f, _⟩ | f
        · rw [c2] at f; cases f
        · rw [c] at f; cases f
        · exact f
      have cf : w.fold ≠ .both ∨ NoFold z := by
        rcases hR with ⟨_, f | f⟩ | ⟨_, _, f⟩ | ⟨f, _⟩ | f
        · exact .inl (by rw [f]; simp)
        · exact .inl (by rw [f]; simp)
        · rw [c2] at f; cases f
        · rw [c] at f; cases f
        · exact .inr f
      rw [key_e h c2, key_e h c2] at e
      have lt := (mono_iff h qt qu (ng _) (ng _) cf).2 e
      have := mono_lt h (read_valid h e1) (read_valid h e2) (ng _) (ng _) (cf.imp id fun q => q _) (by show t.1 + d < u.1 + d; omega)
      rw [key_e h c2, key_e h c2, cmp_lt.mpr this]
theorem r_eqSums {t u : Tm} (qt : IsTm w z t) (qu : IsTm w z u) (d : Int) (hS : w.ws = false ∨ w.gap = .shift ∨ (w.gap = .keep ∧ w.wo = true) ∨ NoGap z)
    (hR : (w.fold = .first ∨ w.fold = .second) ∨ (w.fold = .both ∧ (w.ws = true ∨ w.wo = false)) ∨ NoFold z) : fTwo w z .eqSums t u d = true := by
  unfold fTwo
  refine imp_b h fun e => ?_
  rw [cmp_eq] at e
  have nr : w.fold ≠ .refuse ∨ NoFold z := by
    rcases hR with (f | f) | ⟨f, _⟩ | f
    · exact .inl (by rw [f]; simp)
    · exact .inl (by rw [f]; simp)
    · exact .inl (by rw [f]; simp)
    · exact .inr f
  have fin : ∀ o : Option Tm, o.isSome = true → order w z o o = some 0 := fun o ho => by
    cases o with
    | none => cases ho
    | some a => rw [order_some h, cmp_eq.mpr rfl]
  cases c : w.ws with
  | false =>
    have same : addT w z (some t) d = addT w z (some u) d := by
      rw [add_e h c, add_e h c]
      cases c2 : w.wo with
      | false =>
        rw [key_e h c2, key_e h c2] at e
        rw [e]
      | true =>
        rw [key_w h c2, key_w h c2] at e
        have cf : w.fold ≠ .both ∨ (insts z t.1).length ≠ 2 := by
          rcases hR with (f | f) | ⟨_, f⟩ | f
          · exact .inl (by rw [f]; simp)
          · exact .inl (by rw [f]; simp)
          · rcases f with f | f
            · rw [c] at f; cases f
            · rw [c2] at f; cases f
          · exact .inr (f _)
        rw [tm_eq h qt qu cf e]
    rw [same]
    refine fin _ ?_
    obtain ⟨a, e1, _⟩ := at_told (w := w) h (inst w z u + d) nr
    rw [add_e h c, e1]
    rfl
  | true =>
    have rd : t.1 = u.1 := by
      cases c2 : w.wo with
      | true =>
        rw [key_w h c2, key_w h c2] at e
        exact e
      | false =>
        have g : w.gap ≠ .keep ∨ NoGap z := by
          rcases hS with f | f | ⟨_, f⟩ | f
          · rw [c] at f; cases f
          · exact .inl (by rw [f]; simp)
          · rw [c2] at f; cases f
          · exact .inr f
        rw [key_e h c2, key_e h c2] at e
        have r1 := inst_rd h qt (out_gap h qt g)
        have r2 := inst_rd h qu (out_gap h qu g)
        rw [← r1, ← r2, e]
    have cg : w.gap ≠ .refuse ∨ NoGap z := by
      rcases hS with f | f | ⟨f, _⟩ | f
      · rw [c] at f; cases f
      · exact .inl (by rw [f]; simp)
      · exact .inl (by rw [f]; simp)
      · exact .inr f
    rw [add_w h c, add_w h c, rd]
    refine fin _ ?_
    rcases read_told h (u.1 + d) cg nr with ⟨e1, _⟩ | ⟨_, _, _, _, _, e1, _⟩ <;> rw [e1] <;> rfl
end
/-! ### all rules -/
/-- a rule that holds for a kind holds in each of its zones -/
structure Holds (w : Way) (z : Zone) (r : Rule) : Prop where
  sk : (met w r).1 = true ∨ NoGap z
  re : (met w r).2 = true ∨ NoFold z
section
variable {w : Way} {z : Zone} (h : OkZ z)
include h
theorem all_T (T : Int) (H : Holds w z .fromU) : fFrom w z T = true := by
  refine r_from h T (H.re.imp (fun q => ?_) id)
  simpa [met] using q
theorem all_rd {r : Rule} (c : r = .every ∨ r = .someR) (rd : Int) (H : Holds w z r) : (if r = .every then fEvery w z rd else fSome w z rd) = true := by
  rcases c with rfl | rfl
  · refine r_every h rd (H.sk.imp (fun q => ?_) id) (H.re.imp (fun q => ?_) id) <;> simpa [met] using q
  · refine r_some h rd (H.sk.imp (fun q => ?_) id) (H.re.imp (fun q => ?_) id) <;> simpa [met] using q
theorem all_t {r : Rule} (c : r = .toU ∨ r = .same) {t : Tm} (q : IsTm w z t) (H : Holds w z r) : (if r = .toU then fTo w z t else fSame w z t) = true := by
  rcases c with rfl | rfl
  · refine r_to h q (H.sk.imp (fun q => ?_) id)
    simpa [met] using q
  · refine r_same h q (H.sk.imp (fun q => ?_) id) (H.re.imp (fun q => ?_) id) <;> simpa [met] using q
theorem all_moved {r : Rule} (c : r = .there ∨ r = .sumD ∨ r = .elapsed ∨ r = .later ∨ r = .told) {t : Tm} (q : IsTm w z t) (d e : Int) (H : Holds w z r) : fMoved w z r t d e = true := by
  obtain ⟨s, g⟩ := H
  rcases c with rfl | rfl | rfl | rfl | rfl
  · refine r_there h q d e ?_ ?_
    · rcases s with s | s
      · unfold met at s
        simp only [beq_iff_eq] at s
        cases c : w.ws with
        | true => rw [c] at s; exact .inl ⟨rfl, of_decide_eq_true s.symm⟩
        | false => rw [c] at s; exact .inr (.inl ⟨rfl, of_decide_eq_false s.symm⟩)
      · exact .inr (.inr s)
    · rcases g with g | g
      · unfold met at g
        cases c : w.ws with
        | true => simp [c] at g; exact .inl ⟨rfl, g⟩
        | false => simp [c] at g; exact .inr (.inl ⟨rfl, g⟩)
      · exact .inr (.inr g)
  · refine r_sum h q d e ?_ ?_
    · rcases s with s | s
      · simp [met] at s
        exact s.imp id .inl
      · exact .inr (.inr s)
    · rcases g with g | g
      · unfold met at g
        cases c : w.ws with
        | true => simp [c] at g; exact .inl ⟨rfl, g⟩
        | false => simp [c] at g; exact .inr (.inl ⟨rfl, g⟩)
      · exact .inr (.inr g)
  · refine r_elapsed h q d e (s.imp (fun q => ?_) id) (g.imp (fun q => ?_) id)
    · simpa [met] using q
    · simp [met] at q
      exact ⟨q.2, q.1⟩
  · refine r_later h q d e ?_ ?_
    · rcases s with s | s
      · simp [met] at s
        rcases s with s | s | s
        · exact .inl s
        · exact .inr (.inl s)
        · exact .inr (.inr (.inl s))
      · exact .inr (.inr (.inr s))
    · rcases g with g | g
      · simp [met] at g
        rcases g with g | g | g
        · exact .inl g
        · exact .inr (.inl g)
        · exact .inr (.inr (.inl g))
      · exact .inr (.inr (.inr g))
  · refine r_told h q d e ?_ (g.imp (fun q => ?_) id)
    · rcases s with s | s
      · simp [met] at s
        exact s.imp id .inl
      · exact .inr (.inr s)
    · simpa [met] using q
theorem all_two {r : Rule} (c : r = .diff ∨ r = .ordDiff ∨ r = .eqOne ∨ r = .oneEq ∨ r = .oneOne ∨ r = .ordInst ∨ r = .kept ∨ r = .eqSums) {t u : Tm} (qt : IsTm w z t) (qu : IsTm w z u) (d : Int) (H : Holds w z r) : fTwo w z r t u d = true := by
  obtain ⟨s, g⟩ := H
  rcases c with rfl | rfl | rfl | rfl | rfl | rfl | rfl | rfl
  · refine r_diff h qt qu d ?_ ?_
    · rcases s with s | s
      · simp [met] at s
        exact s.imp id .inl
      · exact .inr (.inr s)
    · rcases g with g | g
      · simp [met] at g
        exact g.imp id .inl
      · exact .inr (.inr g)
  · refine r_ordDiff h qt qu d ?_ ?_
    · rcases s with s | s
      · simp [met] at s
        exact s.imp id .inl
      · exact .inr (.inr s)
    · rcases g with g | g
      · simp [met] at g
        exact g.imp id .inl
      · exact .inr (.inr g)
  · refine r_eqOne h qt qu d ?_
    rcases g with g | g
    · simp [met] at g
      exact g.imp id .inl
    · exact .inr (.inr g)
  · refine r_oneEq h qt qu d ?_
    rcases s with s | s
    · simp [met] at s
      exact s.imp id .inl
    · exact .inr (.inr s)
  · refine r_oneOne h qt qu d (s.imp (fun q => ?_) id)
    simpa [met] using q
  · refine r_ordInst h qt qu d ?_ ?_
    · rcases s with s | s
      · simp [met] at s
        exact s.imp id .inl
      · exact .inr (.inr s)
    · rcases g with g | g
      · simp [met] at g
        exact g.imp id .inl
      · exact .inr (.inr g)
  · refine r_kept h qt qu d ?_ ?_
    · rcases s with s | s
      · unfold met at s
        cases c : w.ws with
        | true => simp [c] at s; exact .inl ⟨rfl, s⟩
        | false => simp [c] at s; exact .inr (.inl ⟨rfl, s⟩)
      · exact .inr (.inr s)
    · rcases g with g | g
      · unfold met at g
        cases c : w.ws with
        | true =>
          simp [c] at g
          rcases g with g | g
          · exact .inl ⟨rfl, g⟩
          · exact .inr (.inl ⟨rfl, g⟩)
        | false => simp [c] at g; exact .inr (.inr (.inl ⟨rfl, g⟩))
      · exact .inr (.inr (.inr g))
  · refine r_eqSums h qt qu d ?_ ?_
    · rcases s with s | s
      · simp [met] at s
        rcases s with s | s | s
        · exact .inl s
        · exact .inr (.inl s)
        · exact .inr (.inr (.inl s))
      · exact .inr (.inr (.inr s))
    · rcases g with g | g
      · simp [met] at g
        rcases g with g | g
        · exact .inl g
        · exact .inr (.inl g)
      · exact .inr (.inr g)
end

theorem g_dgetS {td ty : TE} {σ : St} {H : Hp} {Q : VK} (h : td σ H fun x H1 => ty σ H1 fun y H2 => ∃ a v, x = .ref a ∧ DGet H2 a y (some v) ∧ Q v H2) : tDGet td ty σ H Q := h
def allR : List Rule := [.fromU, .toU, .every, .someR, .there, .sumD, .elapsed, .same, .later, .told, .diff, .ordDiff, .eqOne, .oneEq, .oneOne, .ordInst, .kept, .eqSums]
theorem allR_mem (r : Rule) : r ∈ allR := by cases r <;> decide
theorem ruleS_inj {r q : Rule} (h : ruleS r = ruleS q) : r = q := by
  have a : (allR.all fun r => allR.all fun q => !decide (ruleS r = ruleS q) || decide (r = q)) = true := by decide +kernel
  have b := List.all_eq_true.mp (List.all_eq_true.mp a r (allR_mem r)) q (allR_mem q)
  rw [decide_eq_true h] at b
  exact of_decide_eq_true b
theorem rule_is {r : Rule} (q : Rule) (s : Str) (e : ruleS q = s) : decide (ruleS r = s) = decide (r = q) := by
  subst e
  exact decide_eq_decide.mpr ⟨ruleS_inj, fun h => by rw [h]⟩
/-- the words for the arguments of a rule -/
def shapeR : Rule → List Str
  | .fromU => ["instant"]
  | .toU => ["time"]
  | .every => ["reading"]
  | .someR => ["reading"]
  | .there => ["time", "duration"]
  | .sumD => ["time", "duration", "duration"]
  | .elapsed => ["time", "duration"]
  | .same => ["time"]
  | .later => ["time", "duration"]
  | .told => ["time", "duration"]
  | .kept => ["time", "time", "duration"]
  | .eqSums => ["time", "time", "duration"]
  | _ => ["time", "time"]
def RuleV (r : Rule) : V := .str (ruleS r)
/-! ### promises -/
def sp_law_rules (K : PySem.W.Frag) : Sp := fun vs H Q _ => vs = [] ∧ ∀ p H', H p = none → Ex H H' → H' p = some (.lst (allR.map RuleV)) → Q (.ref p) H'
def sp_law_shape (K : PySem.W.Frag) : Sp := fun vs H Q _ => ∃ r : Rule, vs = [.str (ruleS r)] ∧ ∀ p H', Ex H H' → SqT K H' p ((shapeR r).map V.str) → Q (.ref p) H'
def sp_law_met (K : PySem.W.Frag) : Sp := fun vs H Q _ => ∃ (wv : V) (w : Way) (r : Rule), vs = [wv, .str (ruleS r)] ∧ WayV K H wv w ∧ ∀ v H', Ex H H' → BP K H' v (met w r) → Q v H'
/-- whether a rule holds for a kind, by its conditions -/
def holdsB (w : Way) (kind : Str) (r : Rule) : Bool :=
  ((met w r).1 || (decide ("fixed" = kind) || (decide ("repeats" = kind) || false))) && ((met w r).2 || (decide ("fixed" = kind) || (decide ("skips" = kind) || false)))
def sp_law_holds (K : PySem.W.Frag) : Sp := fun vs H Q _ => ∃ (wv : V) (w : Way) (kind : Str) (r : Rule), vs = [wv, .str kind, .str (ruleS r)] ∧ WayV K H wv w ∧ ∀ H', Ex H H' → Q (.bl (holdsB w kind r)) H'
theorem mono_BP {K : PySem.W.Frag} {w : Way} : ∀ {H : Hp} (H' : Hp) (v : V) (r : Rule), TrT K H H' → BP K H v (met w r) → BP K H' v (met w r) := fun _ _ _ e h => h.tr e
/-! one store, two stores of the dict of conditions -/
section
variable {K : PySem.W.Frag} {w : Way} {D : Addr} {H0 H : Hp} {σ : St} {n : St → Hp → Prop} {rt : VK} {bk ct : St → Hp → Prop} {rs : List Rule} {ta tb tc td : TE}
abbrev MetAt (K : PySem.W.Frag) (w : Way) (H : Hp) (D : Addr) (rs : List Rule) : Prop := DictAt K ruleS (fun H' v r => BP K H' v (met w r)) H D rs
theorem met_put (r : Rule) {v : V} {R : Hp → Prop} (h : MetAt K w H D rs) (e0 : Ex H0 H) (n0 : H0 D = none) (no : r ∉ rs) (few : rs.length < 1000) (hv : BP K H v (met w r))
    (k : ∀ H', Ex H0 H' → Fr D H H' → MetAt K w H' D (rs ++ [r]) → R H') : rSetD (.ref D) (.str (ruleS r)) v H R :=
  DictAt.put h mono_BP (fun x hx e => no (ruleS_inj e ▸ hx)) few hv fun H' f d => k H' (ex_fr e0 n0 f) f d
theorem met_one (r : Rule) (h : MetAt K w H D rs) (e0 : Ex H0 H) (n0 : H0 D = none) (hD : σ[11]? = some (some (.ref D))) (no : r ∉ rs) (few : rs.length < 1000)
    (h1 : ∀ H, EvV ta σ H (.bl (met w r).1)) (h2 : ∀ H, EvV tb σ H (.bl (met w r).2)) (k : ∀ H', Ex H0 H' → MetAt K w H' D (rs ++ [r]) → n σ H') :
    tAsg (tTup (tCons ta (tCons tb tNil))) (gSub (tVar 11) (tC (.str (ruleS r))) rSetD) (Ends.mk n rt bk ct) σ H := by
  refine g_asg ?_
  refine g_pairB (h1 _) (h2 _) fun p H1 n1 e1 p1 => ?_
  refine g_sub ?_
  refine g_var hD ?_
  refine g_c ?_
  exact met_put r (h.tr e1 mono_BP) (e0.trans e1) n0 no few ⟨p, rfl, SqT.of p1⟩ fun H' e f d => k H' e d
theorem met_two (r q : Rule) (h : MetAt K w H D rs) (e0 : Ex H0 H) (n0 : H0 D = none) (hD : σ[11]? = some (some (.ref D))) (no : r ∉ rs) (no2 : q ∉ rs ++ [r]) (few : rs.length < 900)
    (h1 : ∀ H, EvV ta σ H (.bl (met w r).1)) (h2 : ∀ H, EvV tb σ H (.bl (met w r).2)) (h3 : ∀ H, EvV tc σ H (.bl (met w q).1)) (h4 : ∀ H, EvV td σ H (.bl (met w q).2))
    (k : ∀ H', Ex H0 H' → MetAt K w H' D ((rs ++ [r]) ++ [q]) → n σ H') :
    tAsg (tTup (tCons (tTup (tCons ta (tCons tb tNil))) (tCons (tTup (tCons tc (tCons td tNil))) tNil)))
      (gTup K 2 (gCons (gSub (tVar 11) (tC (.str (ruleS r))) rSetD) (gCons (gSub (tVar 11) (tC (.str (ruleS q))) rSetD) gNil))) (Ends.mk n rt bk ct) σ H := by
  refine g_asg ?_
  refine g_tup ?_
  refine g_cons ?_
  refine g_pairB (h1 _) (h2 _) fun p1 H1 n1 e1 q1 => ?_
  refine g_cons ?_
  refine g_pairB (h3 _) (h4 _) fun p2 H2 n2 e2 q2 => ?_
  refine g_nil ?_
  refine g_newT (by simp) fun p3 H3 n3 e3 q3 => ?_
  refine g_gtup (SqT.of q3) rfl ?_
  have e03 : Ex H H3 := (e1.trans e2).trans e3
  refine g_gcons ?_
  refine g_sub ?_
  refine g_var hD ?_
  refine g_c ?_
  refine met_put r (h.tr e03 mono_BP) (e0.trans e03) n0 no (by omega) ⟨p1, rfl, SqT.of (e3 _ _ (e2 _ _ q1))⟩ fun H4 e4 f4 d4 => ?_
  refine g_gcons ?_
  refine g_sub ?_
  refine g_var hD ?_
  refine g_c ?_
  have tr : TrT K H3 H4 := DictAt.trT (h.tr e03 mono_BP) f4
  refine met_put q d4 e4 n0 no2 (by rw [List.length_append]; simp; omega) ⟨p2, rfl, tr _ _ (SqT.of (e3 _ _ q2))⟩ fun H5 e5 f5 d5 => ?_
  exact g_gnil (k H5 e5 d5)
end
theorem sum_eq (a b : Bool) : decide (sumS a = sumS b) = (a == b) := by cases a <;> cases b <;> decide +kernel
theorem fold_plain (f : Fold) : inV (.str (foldS f)) [.str "first", .str "second"] = (decide (f = .first) || decide (f = .second)) := by cases f <;> decide +kernel
/-- the slots of the conditions' def, while the dict is filled -/
structure MS (w : Way) (r : Rule) (D : Addr) (σ : St) : Prop where
  s1 : σ[1]? = some (some (.str (ruleS r)))
  s2 : σ[2]? = some (some (.bl w.ws))
  s3 : σ[3]? = some (some (.bl w.wo))
  s4 : σ[4]? = some (some (.str (gapS w.gap)))
  s5 : σ[5]? = some (some (.str (foldS w.fold)))
  s6 : σ[6]? = some (some (.bl (decide (w.gap = .keep))))
  s7 : σ[7]? = some (some (.bl (decide (w.fold = .both))))
  s8 : σ[8]? = some (some (.bl (w.ws == w.wo)))
  s9 : σ[9]? = some (some (.bl (!decide (w.fold = .refuse))))
  s10 : σ[10]? = some (some (.bl (decide (w.fold = .first) || decide (w.fold = .second))))
  s11 : σ[11]? = some (some (.ref D))
  len : 13 < σ.length
theorem MS.put {w : Way} {r : Rule} {D : Addr} {σ : St} {j : Nat} {v : Option V} (hj : 11 < j) (s : MS w r D σ) : MS w r D (σ.set j v) := by
  have q : ∀ i, i ≤ 11 → (σ.set j v)[i]? = σ[i]? := fun i hi => List.getElem?_set_ne (by omega)
  exact ⟨by rw [q _ (by decide)]; exact s.s1, by rw [q _ (by decide)]; exact s.s2, by rw [q _ (by decide)]; exact s.s3, by rw [q _ (by decide)]; exact s.s4, by rw [q _ (by decide)]; exact s.s5,
    by rw [q _ (by decide)]; exact s.s6, by rw [q _ (by decide)]; exact s.s7, by rw [q _ (by decide)]; exact s.s8, by rw [q _ (by decide)]; exact s.s9, by rw [q _ (by decide)]; exact s.s10, by rw [q _ (by decide)]; exact s.s11,
    by rw [List.length_set]; exact s.len⟩
theorem slot_put {σ : St} {j : Nat} {v : Option V} (h : j < σ.length) : (σ.set j v)[j]? = some v := by
  rw [List.getElem?_set_self h]
theorem slot_keep {σ : St} {i j : Nat} {v : Option V} {x : Option (Option V)} (h : σ[i]? = x) (ne : j ≠ i) : (σ.set j v)[i]? = x := by
  rw [List.getElem?_set_ne ne]
  exact h
theorem slots (P : St → Prop) {n : St → Hp → Prop} {σ : St} {H : Hp} (h : P σ) (k : ∀ σ', P σ' → n σ' H) : n σ H := k σ h
local macro_rules | `(tactic| walk_at "sl") => `(tactic| with_reducible (first
  | assumption
  | exact MS.s2 (by assumption)
  | exact MS.s3 (by assumption)
  | exact MS.s4 (by assumption)
  | exact MS.s5 (by assumption)
  | exact MS.s6 (by assumption)
  | exact MS.s7 (by assumption)
  | exact MS.s8 (by assumption)
  | exact MS.s9 (by assumption)
  | exact MS.s10 (by assumption)))
local macro_rules | `(tactic| walk_at "ee") => `(tactic| first
  | ((with_reducible apply evV_var); walk_at "sl")
  | with_reducible exact evV_c
  | ((with_reducible apply evV_not) <;> walk_at "ee")
  | ((with_reducible apply evV_or) <;> walk_at "ee")
  | ((with_reducible apply evV_and) <;> walk_at "ee")
  | ((with_reducible apply evV_if) <;> walk_at "ee")
  | ((with_reducible apply evK_B) <;> walk_at "ee")
  | ((with_reducible apply evK_test) <;> walk_at "ee")
  | ((with_reducible apply evK_not) <;> walk_at "ee")
  | ((with_reducible apply evV_eqB) <;> walk_at "ee")
  | ((with_reducible apply evV_eqS) <;> walk_at "ee")
  | ((with_reducible apply evV_neS) <;> walk_at "ee"))
local macro_rules | `(tactic| walk_at "ebm") => `(tactic| (apply evV_is; (focus walk_at "ee"); (simp only [met, gap_refuse, gap_shift, gap_keep, fold_first, fold_second, fold_both, fold_refuse])))
section
variable {P : Program} {w : World} {K : PySem.W.Frag} {mg : Str → Option Value} {base : Heap}
theorem ok_law_rules (T : Txt w K mg) : FnOk P w K mg base CX0 1 T.f_law_rules.f T.f_law_rules.fd [] (sp_law_rules K) := by
  refine T.f_law_rules.F.ok sc_law_rules (fun vs H Q E h => ?_) (fun cdv A outer s H vs Q E hr h => ?_)
  · obtain ⟨rfl, _⟩ := h
    rfl
  obtain ⟨rfl, k⟩ := h
  refine ⟨(tSeq (tAsg (tLst (tCons (tC (.str "from universal and back")) (tCons (tC (.str "to universal and back")) (tCons (tC (.str "every reading")) (tCons (tC (.str "some reading")) (tCons (tC (.str "there and back")) tNil)))))) (gName 0)) (tSeq (tAsg (tOp rCat (tVar 0) (tLst (tCons (tC (.str "sum of durations")) (tCons (tC (.str "elapsed time")) (tCons (tC (.str "same clock")) (tCons (tC (.str "later")) (tCons (tC (.str "sums told")) (tCons (tC (.str "difference recovers")) tNil)))))))) (gName 0)) (tSeq (tAsg (tOp rCat (tVar 0) (tLst (tCons (tC (.str "order by difference")) (tCons (tC (.str "equal means one instant")) (tCons (tC (.str "one instant means equal")) (tCons (tC (.str "one instant, one time")) tNil)))))) (gName 0)) (tRet (tOp rCat (tVar 0) (tLst (tCons (tC (.str "order of instants")) (tCons (tC (.str "order kept")) (tCons (tC (.str "equal sums")) tNil))))))))),
    PSs.nox (pss_cons (ps_set (i := 0) sc_law_rules.nd rfl (Or.inl rfl) (pe_lst (pa_cons pe_str (pa_cons pe_str (pa_cons pe_str (pa_cons pe_str (pa_cons pe_str pa_nil))))))) (pss_cons (ps_set (i := 0) sc_law_rules.nd rfl (Or.inl rfl) (pe_op op_cat (pv 0) (pe_lst (pa_cons pe_str (pa_cons pe_str (pa_cons pe_str (pa_cons pe_str (pa_cons pe_str (pa_cons pe_str pa_nil))))))))) (pss_cons (ps_set (i := 0) sc_law_rules.nd rfl (Or.inl rfl) (pe_op op_cat (pv 0) (pe_lst (pa_cons pe_str (pa_cons pe_str (pa_cons pe_str (pa_cons pe_str pa_nil))))))) (pss_one (ps_ret (pe_op op_cat (pv 0) (pe_lst (pa_cons pe_str (pa_cons pe_str (pa_cons pe_str pa_nil)))))))))), ?_⟩
  walk_at "gg"
  refine g_newL (by simp) fun l1 H1 n1 e1 h1 => ?_
  walk_at "gg"
  refine g_newL (by simp) fun l2 H2 n2 e2 h2 => ?_
  refine g_cat (e2 _ _ h1) h2 (by simp) fun l3 H3 n3 e3 h3 => ?_
  walk_at "gg"
  refine g_newL (by simp) fun l4 H4 n4 e4 h4 => ?_
  refine g_cat (e4 _ _ h3) h4 (by simp) fun l5 H5 n5 e5 h5 => ?_
  walk_at "gg"
  refine g_newL (by simp) fun l6 H6 n6 e6 h6 => ?_
  refine g_cat (e6 _ _ h5) h6 (by simp) fun l7 H7 n7 e7 h7 => ?_
  have e06 := (((e1.trans e2).trans e3).trans (e4.trans e5)).trans e6
  exact k l7 H7 (Evl.fresh_back e06 n7) (e06.trans e7) h7
theorem ok_law_shape (T : Txt w K mg) : FnOk P w K mg base CX0 1 T.f_law_shape.f T.f_law_shape.fd ["rule"] (sp_law_shape K) := by
  refine T.f_law_shape.F.ok sc_law_shape (fun vs H Q E h => ?_) (fun cdv A outer s H vs Q E hr h => ?_)
  · obtain ⟨r, rfl, _⟩ := h
    rfl
  obtain ⟨r, rfl, k⟩ := h
  refine ⟨(tSeq (tIfS (tTest (tOp (rIn K false) (tVar 0) (tLst (tCons (tC (.str "every reading")) (tCons (tC (.str "some reading")) tNil))))) (tRet (tTup (tCons (tC (.str "reading")) tNil))) tNext) (tSeq (tIfS (tTest (tOp (rIn K false) (tVar 0) (tLst (tCons (tC (.str "to universal and back")) (tCons (tC (.str "same clock")) tNil))))) (tRet (tTup (tCons (tC (.str "time")) tNil))) tNext) (tSeq (tIfS (tTest (tOp (rIn K false) (tVar 0) (tLst (tCons (tC (.str "there and back")) (tCons (tC (.str "elapsed time")) (tCons (tC (.str "later")) (tCons (tC (.str "sums told")) tNil))))))) (tRet (tTup (tCons (tC (.str "time")) (tCons (tC (.str "duration")) tNil)))) tNext) (tSeq (tIfS (tTest (tOp (rIn K false) (tVar 0) (tLst (tCons (tC (.str "order kept")) (tCons (tC (.str "equal sums")) tNil))))) (tRet (tTup (tCons (tC (.str "time")) (tCons (tC (.str "time")) (tCons (tC (.str "duration")) tNil))))) tNext) (tRet (tDGet2 (tDisp [((tC (.str "from universal and back")), (tTup (tCons (tC (.str "instant")) tNil))), ((tC (.str "sum of durations")), (tTup (tCons (tC (.str "time")) (tCons (tC (.str "duration")) (tCons (tC (.str "duration")) tNil)))))]) (tVar 0) (tTup (tCons (tC (.str "time")) (tCons (tC (.str "time")) tNil))))))))),
    PSs.nox (pss_cons (ps_if (pt_cmpR op_in_seq (pv 0) (pe_lst (pa_cons pe_str (pa_cons pe_str pa_nil))) (by rfl)) (pss_one (ps_ret (pe_tup (pa_cons pe_str pa_nil)))) pss_nil) (pss_cons (ps_if (pt_cmpR op_in_seq (pv 0) (pe_lst (pa_cons pe_str (pa_cons pe_str pa_nil))) (by rfl)) (pss_one (ps_ret (pe_tup (pa_cons pe_str pa_nil)))) pss_nil) (pss_cons (ps_if (pt_cmpR op_in_seq (pv 0) (pe_lst (pa_cons pe_str (pa_cons pe_str (pa_cons pe_str (pa_cons pe_str pa_nil))))) (by rfl)) (pss_one (ps_ret (pe_tup (pa_cons pe_str (pa_cons pe_str pa_nil))))) pss_nil) (pss_cons (ps_if (pt_cmpR op_in_seq (pv 0) (pe_lst (pa_cons pe_str (pa_cons pe_str pa_nil))) (by rfl)) (pss_one (ps_ret (pe_tup (pa_cons pe_str (pa_cons pe_str (pa_cons pe_str pa_nil)))))) pss_nil) (pss_one (ps_ret (pe_dget2 (hu_of hr) (pe_disp (pps_cons pe_str (pe_tup (pa_cons pe_str pa_nil)) (pps_cons pe_str (pe_tup (pa_cons pe_str (pa_cons pe_str (pa_cons pe_str pa_nil)))) pps_nil)) (by rfl) (by rfl) (fun z => by cases z) (by decide)) (pv 0) (pe_tup (pa_cons pe_str (pa_cons pe_str pa_nil))) ⟨by rfl, by rfl, by rfl, by rfl⟩))))))), ?_⟩
  walk_at "gg"
  refine g_newL (by simp) fun l1 H1 n1 e1 h1 => ?_
  refine g_inL (SqL.of h1) rfl rfl ?_
  walk_at "gg"
  have fin : ∀ (ws : List Str) H2, Ex H H2 → shapeR r = ws → ws.length ≤ 1000 → NewT (ws.map V.str) H2 Q := by
    intro ws H2 e2 e len
    refine g_newT (by rw [List.length_map]; omega) fun p H3 n3 e3 h3 => ?_
    rw [← e] at h3
    exact k p H3 (e2.trans e3) (SqT.of h3)
  refine if_b (fun c1 => ?_) (fun c1 => ?_)
  · walk_at "gg"
    exact fin ["reading"] _ e1 (by cases r <;> first | rfl | exact absurd c1 (by decide +kernel)) (by decide)
  walk_at "gg"
  refine g_newL (by simp) fun l2 H2 n2 e2 h2 => ?_
  refine g_inL (SqL.of h2) rfl rfl ?_
  walk_at "gg"
  refine if_b (fun c2 => ?_) (fun c2 => ?_)
  · walk_at "gg"
    exact fin ["time"] _ (e1.trans e2) (by cases r <;> first | rfl | exact absurd c1 (by decide +kernel) | exact absurd c2 (by decide +kernel)) (by decide)
  walk_at "gg"
  refine g_newL (by simp) fun l3 H3 n3 e3 h3 => ?_
  refine g_inL (SqL.of h3) rfl rfl ?_
  walk_at "gg"
  refine if_b (fun c3 => ?_) (fun c3 => ?_)
  · walk_at "gg"
    exact fin ["time", "duration"] _ ((e1.trans e2).trans e3) (by cases r <;> first | rfl | exact absurd c1 (by decide +kernel) | exact absurd c2 (by decide +kernel) | exact absurd c3 (by decide +kernel)) (by decide)
  walk_at "gg"
  refine g_newL (by simp) fun l4 H4 n4 e4 h4 => ?_
  refine g_inL (SqL.of h4) rfl rfl ?_
  walk_at "gg"
  refine if_b (fun c4 => ?_) (fun c4 => ?_)
  · walk_at "gg"
    exact fin ["time", "time", "duration"] _ ((e1.trans e2).trans (e3.trans e4)) (by cases r <;> first | rfl | exact absurd c1 (by decide +kernel) | exact absurd c2 (by decide +kernel) | exact absurd c3 (by decide +kernel) | exact absurd c4 (by decide +kernel)) (by decide)
  walk_at "gg"
  refine g_disp fun d H5 n5 e5 h5 => ?_
  walk_at "gg"
  refine g_newT (by simp) fun t6 H6 n6 e6 h6 => ?_
  walk_at "gg"
  refine g_newT (by simp) fun t7 H7 n7 e7 h7 => ?_
  walk_at "gg"
  have d7 := e7 _ _ (e6 _ _ h5)
  refine g_dispEnd [((Sum.inr "from universal and back" : Key), V.ref t6), (Sum.inr "sum of durations", V.ref t7)] (H0 := H4) n5 ((e5.trans e6).trans e7) d7 rfl (by simp) fun H8 e8 f8 h8 => ?_
  refine g_isD h8 ?_
  have h68 : H8 t6 = some (.tup [.str "instant"]) := f8 _ _ (ne_of (e7 _ _ h6) d7 (fun z => nomatch z)) (e7 _ _ h6)
  have h78 : H8 t7 = some (.tup [.str "time", .str "duration", .str "duration"]) := f8 _ _ (ne_of h7 d7 (fun z => nomatch z)) h7
  walk_at "gg"
  refine g_newT (by simp) fun t9 H9 n9 e9 h9 => ?_
  refine g_dgetR (e9 _ _ h8) ?_
  have nbr : ¬ (Sum.inr ("from universal and back" : Str) : Key) = Sum.inr ("sum of durations" : Str) := by decide +kernel
  have e09 : Ex H H9 := ((e1.trans e2).trans (e3.trans e4)).trans (e8.trans e9)
  rw [merge2 nbr, val2]
  by_cases a1 : ("from universal and back" : Str) = ruleS r
  · rw [if_pos a1]
    have er : r = .fromU := ruleS_inj a1.symm
    subst er
    exact k t6 H9 e09 (SqT.of (e9 _ _ h68))
  · rw [if_neg a1]
    by_cases a2 : ("sum of durations" : Str) = ruleS r
    · rw [if_pos a2]
      have er : r = .sumD := ruleS_inj a2.symm
      subst er
      exact k t7 H9 e09 (SqT.of (e9 _ _ h78))
    · rw [if_neg a2]
      refine k t9 H9 e09 ?_
      have er : shapeR r = (["time", "time"] : List Str) := by cases r <;> first | rfl | exact absurd c1 (by decide +kernel) | exact absurd c2 (by decide +kernel) | exact absurd c3 (by decide +kernel) | exact absurd c4 (by decide +kernel) | exact absurd rfl a1 | exact absurd rfl a2
      rw [er]
      exact SqT.of h9
end

/-! ### results stay near -/
section
variable {w : Way} {z : Zone} (h : OkZ z)
include h
theorem at_near {T : Int} {t : Tm} (e : at_ w z T = some t) : T - 15 ≤ t.1 ∧ t.1 ≤ T + 15 := by
  have q := (at_valid h e).2
  have := h.offs T
  omega
theorem read_near {rd : Int} {t : Tm} (e : read_ w z rd = some t) : rd - 30 ≤ t.1 ∧ t.1 ≤ rd + 30 := by
  unfold read_ at e
  have b : -15 ≤ before z rd ∧ before z rd ≤ 15 := h.offs _
  split at e
  next c =>
    cases hg : w.gap with
    | shift =>
      rw [hg] at e
      have := at_near h e
      omega
    | refuse => rw [hg] at e; cases e
    | keep =>
      rw [hg] at e
      cases e
      show rd - 30 ≤ rd ∧ rd ≤ rd + 30
      omega
  next c =>
    split at e
    · cases e
    · cases e
      show rd - 30 ≤ rd ∧ rd ≤ rd + 30
      omega
theorem add_near {t u : Tm} {d : Int} (q : IsTm w z t) (e : addT w z (some t) d = some u) : t.1 + d - 50 ≤ u.1 ∧ u.1 ≤ t.1 + d + 50 := by
  unfold addT at e
  simp only at e
  split at e
  · have := read_near h e
    omega
  · have := at_near h e
    have := inst_near h q
    omega
end
/-! ### promises -/
/-- the argument of a rule of one argument, and whether the rule holds for it -/
def OneOk (K : PySem.W.Frag) (H : Hp) (w : Way) (z : Zone) (xv : V) (b : Bool) : Rule → Prop
  | .fromU => ∃ T : Int, xv = .int T ∧ Sn T ∧ b = fFrom w z T
  | .every => ∃ T : Int, xv = .int T ∧ Sn T ∧ b = fEvery w z T
  | .someR => ∃ T : Int, xv = .int T ∧ Sn T ∧ b = fSome w z T
  | .toU => ∃ t : Tm, PV K H xv t ∧ IsTm w z t ∧ -1000000 ≤ t.1 ∧ t.1 ≤ 1000000 ∧ b = fTo w z t
  | .same => ∃ t : Tm, PV K H xv t ∧ IsTm w z t ∧ -1000000 ≤ t.1 ∧ t.1 ≤ 1000000 ∧ b = fSame w z t
  | _ => False
def sp_law_one (K : PySem.W.Frag) : Sp := fun vs H Q _ => ∃ (wv zv xv : V) (w : Way) (z : Zone) (r : Rule) (b : Bool), vs = [wv, zv, .str (ruleS r), xv] ∧ WayV K H wv w ∧ ZV K H zv z ∧ OkZ z ∧ OneOk K H w z xv b r ∧ ∀ H', Ex H H' → Q (.bl b) H'
def isMoved (r : Rule) : Prop := r = .there ∨ r = .sumD ∨ r = .elapsed ∨ r = .later ∨ r = .told
def isTwo (r : Rule) : Prop := r = .diff ∨ r = .ordDiff ∨ r = .eqOne ∨ r = .oneEq ∨ r = .oneOne ∨ r = .ordInst ∨ r = .kept ∨ r = .eqSums
def sp_law_moved (K : PySem.W.Frag) : Sp := fun vs H Q _ => ∃ (wv zv tv : V) (w : Way) (z : Zone) (r : Rule) (t : Tm) (d e : Int), vs = [wv, zv, .str (ruleS r), tv, .int d, .int e] ∧ isMoved r ∧ WayV K H wv w ∧ ZV K H zv z ∧ OkZ z ∧
  PV K H tv t ∧ IsTm w z t ∧ -1000000 ≤ t.1 ∧ t.1 ≤ 1000000 ∧ -10000 ≤ d ∧ d ≤ 10000 ∧ -10000 ≤ e ∧ e ≤ 10000 ∧ ∀ H', Ex H H' → Q (.bl (fMoved w z r t d e)) H'
def sp_law_two (K : PySem.W.Frag) : Sp := fun vs H Q _ => ∃ (wv zv tv uv dv : V) (w : Way) (z : Zone) (r : Rule) (t u : Tm) (d : Int), vs = [wv, zv, .str (ruleS r), tv, uv, dv] ∧ isTwo r ∧ WayV K H wv w ∧ ZV K H zv z ∧ OkZ z ∧
  PV K H tv t ∧ IsTm w z t ∧ -1000000 ≤ t.1 ∧ t.1 ≤ 1000000 ∧ PV K H uv u ∧ IsTm w z u ∧ -1000000 ≤ u.1 ∧ u.1 ≤ 1000000 ∧ (r = .kept ∨ r = .eqSums → dv = .int d ∧ -10000 ≤ d ∧ d ≤ 10000) ∧ ∀ H', Ex H H' → Q (.bl (fTwo w z r t u d)) H'
theorem ord_some {w : Way} {z : Zone} {t u : Tm} : ordV (order w z (some t) (some u)) = .int (cmp (key w z t) (key w z u)) := rfl
theorem g_eqO {H : Hp} {Q : VK} {o : Option Int} {j : Int} (h : Q (.bl (decide (o = some j))) H) : rEq (ordV o) (.int j) H Q := by
  cases o with
  | none => exact ⟨rfl, h⟩
  | some i =>
    refine g_eqI ?_
    rw [show decide (some i = some j) = decide (i = j) from decide_eq_decide.mpr ⟨fun e => Option.some.inj e, fun e => by rw [e]⟩] at h
    exact h
section
variable {P : Program} {w : World} {K : PySem.W.Frag} {mg : Str → Option Value} {base : Heap}
theorem ok_law_one (T : Txt w K mg) : FnOk P w K mg base CX0 6 T.f_law_one.f T.f_law_one.fd ["way", "zone", "rule", "x"] (sp_law_one K) := by
  refine T.f_law_one.F.ok sc_law_one (fun vs H Q E h => ?_) (fun cdv A outer s H vs Q E hr h => ?_)
  · obtain ⟨wv, zv, xv, w, z, r, b, rfl, _⟩ := h
    rfl
  obtain ⟨wv, zv, xv, w, z, r, b, rfl, hwv, hv, hz, ho, k⟩ := h
  refine ⟨(tSeq (tIfS (tTest (tOp rEq (tVar 2) (tC (.str "from universal and back")))) (tSeq (tAsg (tCall (sp_law_at K) [] E0 (tCons (tVar 0) (tCons (tVar 1) (tCons (tVar 3) tNil)))) (gName 4)) (tRet (tAndV (tOp (rNeD K) (tVar 4) (tC (.str "refused"))) (tOp rEq (tCall (sp_law_instant K) [] E0 (tCons (tVar 0) (tCons (tVar 1) (tCons (tVar 4) tNil)))) (tVar 3))))) tNext) (tSeq (tIfS (tTest (tOp rEq (tVar 2) (tC (.str "to universal and back")))) (tRet (tOp (rEqD K) (tCall (sp_law_at K) [] E0 (tCons (tVar 0) (tCons (tVar 1) (tCons (tCall (sp_law_instant K) [] E0 (tCons (tVar 0) (tCons (tVar 1) (tCons (tVar 3) tNil)))) tNil)))) (tVar 3))) tNext) (tSeq (tAsg (tIf (tTest (tOp rEq (tVar 2) (tC (.str "same clock")))) (tCall (sp_law_add K) [] E0 (tCons (tVar 0) (tCons (tVar 1) (tCons (tVar 3) (tCons (tC (.int 24)) tNil))))) (tCall (sp_law_read K) [] E0 (tCons (tVar 0) (tCons (tVar 1) (tCons (tVar 3) tNil))))) (gName 4)) (tSeq (tIfS (tTest (tOp (rEqD K) (tVar 4) (tC (.str "refused")))) (tRet (tC (.bl false))) tNext) (tRet (tOrV (tOp rEq (tVar 2) (tC (.str "some reading"))) (tOp rEq (tOp (rIxT K) (tVar 4) (tC (.int 0))) (tIf (tTest (tOp rEq (tVar 2) (tC (.str "same clock")))) (tOp (rI0 fun i j => .int (i + j)) (tOp (rIxT K) (tVar 3) (tC (.int 0))) (tC (.int 24))) (tVar 3))))))))),
    PSs.nox (pss_cons (ps_if (pt_cmpR op_eq (pv 2) pe_str (nomark _)) (pss_cons (ps_set (i := 4) sc_law_one.nd rfl (Or.inl rfl) (pe_call (ok_law_at T) (hr.mono (by decide)) (by rfl) T.f_law_at.g T.f_law_at.F.kp T.f_law_at.b .nil pass0 (pa_cons (pv 0) (pa_cons (pv 1) (pa_cons (pv 3) pa_nil))))) (pss_one (ps_ret (pe_and (pe_cmpR (op_neD hr.units) (pv 4) pe_str (nomark _)) (pe_one (pe_cmpR op_eq (pe_call (ok_law_instant T) (hr.mono (by decide)) (by rfl) T.f_law_instant.g T.f_law_instant.F.kp T.f_law_instant.b .nil pass0 (pa_cons (pv 0) (pa_cons (pv 1) (pa_cons (pv 4) pa_nil)))) (pv 3) (nomark _))))))) pss_nil) (pss_cons (ps_if (pt_cmpR op_eq (pv 2) pe_str (nomark _)) (pss_one (ps_ret (pe_cmpR (op_eqD hr.units) (pe_call (ok_law_at T) (hr.mono (by decide)) (by rfl) T.f_law_at.g T.f_law_at.F.kp T.f_law_at.b .nil pass0 (pa_cons (pv 0) (pa_cons (pv 1) (pa_cons (pe_call (ok_law_instant T) (hr.mono (by decide)) (by rfl) T.f_law_instant.g T.f_law_instant.F.kp T.f_law_instant.b .nil pass0 (pa_cons (pv 0) (pa_cons (pv 1) (pa_cons (pv 3) pa_nil)))) pa_nil)))) (pv 3) (nomark _)))) pss_nil) (pss_cons (ps_set (i := 4) sc_law_one.nd rfl (Or.inl rfl) (pe_ifExp (pt_cmpR op_eq (pv 2) pe_str (nomark _)) (pe_call (ok_law_add T) (hr.mono (by decide)) (by rfl) T.f_law_add.g T.f_law_add.F.kp T.f_law_add.b .nil pass0 (pa_cons (pv 0) (pa_cons (pv 1) (pa_cons (pv 3) (pa_cons pe_int pa_nil))))) (pe_call (ok_law_read T) (hr.mono (by decide)) (by rfl) T.f_law_read.g T.f_law_read.F.kp T.f_law_read.b .nil pass0 (pa_cons (pv 0) (pa_cons (pv 1) (pa_cons (pv 3) pa_nil)))))) (pss_cons (ps_if (pt_cmpR (op_eqD hr.units) (pv 4) pe_str (nomark _)) (pss_one (ps_ret pe_bl)) pss_nil) (pss_one (ps_ret (pe_or (pe_cmpR op_eq (pv 2) pe_str (nomark _)) (pe_one (pe_cmpR op_eq (pe_ix ix_tup (pv 4) pe_int (fun _ _ => rfl)) (pe_ifExp (pt_cmpR op_eq (pv 2) pe_str (nomark _)) (pe_op op_add (pe_ix ix_tup (pv 3) pe_int (fun _ _ => rfl)) pe_int) (pv 3)) (nomark _)))))))))), ?_⟩
  cases r <;> first | exact ho.elim | skip
  case fromU =>
    obtain ⟨T, rfl, bT, rfl⟩ := ho
    unfold Sn at bT
    walk_at "gg"
    refine ⟨_, _, _, _, _, rfl, hwv, hv, hz, by unfold Sm; omega, fun v H1 e1 hv1 => ?_⟩
    walk_at "gg"
    refine g_neT hv1 (b := none) rfl ?_
    unfold fFrom at k
    cases q : at_ w z T with
    | none =>
      rw [q] at k
      walk_at "gg"
      exact k _ e1
    | some t =>
      rw [q] at k hv1
      have va := at_valid hz q
      have ne := at_near hz q
      walk_at "gg"
      refine ⟨_, _, _, _, _, t, rfl, hwv.tr (TrT.of e1), hv.tr (TrT.of e1), hz, hv1, va.1, by unfold Sm; omega, fun H2 e2 => ?_⟩
      walk_at "gg"
      exact k _ (e1.trans e2)
  case toU =>
    obtain ⟨t, ht, q, b1, b2, rfl⟩ := ho
    have ne := inst_near hz q
    walk_at "gg"
    refine ⟨_, _, _, _, _, t, rfl, hwv, hv, hz, ht, q, by unfold Sm; omega, fun H1 e1 => ?_⟩
    walk_at "gg"
    refine ⟨_, _, _, _, _, rfl, hwv.tr (TrT.of e1), hv.tr (TrT.of e1), hz, by unfold Sm; omega, fun v H2 e2 hv2 => ?_⟩
    walk_at "gg"
    refine g_eqT hv2 (b := some t) (ht.tr (TrT.of (e1.trans e2))) ?_
    exact k _ (e1.trans e2)
  case every =>
    obtain ⟨T, rfl, bT, rfl⟩ := ho
    walk_at "gg"
    refine ⟨_, _, _, _, _, rfl, hwv, hv, hz, bT, fun v H1 e1 hv1 => ?_⟩
    walk_at "gg"
    refine g_eqT hv1 (b := none) rfl ?_
    unfold fEvery at k
    cases q : read_ w z T with
    | none =>
      rw [q] at k
      walk_at "gg"
      exact k _ e1
    | some t =>
      rw [q] at k hv1
      obtain ⟨ta, rfl, hta⟩ := id hv1
      walk_at "gg"
      exact k _ e1
  case someR =>
    obtain ⟨T, rfl, bT, rfl⟩ := ho
    walk_at "gg"
    refine ⟨_, _, _, _, _, rfl, hwv, hv, hz, bT, fun v H1 e1 hv1 => ?_⟩
    walk_at "gg"
    refine g_eqT hv1 (b := none) rfl ?_
    unfold fSome at k
    cases q : read_ w z T with
    | none =>
      rw [q] at k
      walk_at "gg"
      exact k _ e1
    | some t =>
      rw [q] at k
      walk_at "gg"
      exact k _ e1
  case same =>
    obtain ⟨t, ht, q, b1, b2, rfl⟩ := ho
    walk_at "gg"
    refine ⟨_, _, _, _, _, some t, _, rfl, hwv, hv, hz, ht, fun x e => ?_, fun x e => ?_, fun v H1 e1 hv1 => ?_⟩
    · cases e
      exact ⟨q, by unfold Sm; omega⟩
    · cases e
      unfold Sn
      omega
    walk_at "gg"
    refine g_eqT hv1 (b := none) rfl ?_
    unfold fSame at k
    cases q2 : addT w z (some t) 24 with
    | none =>
      rw [q2] at k
      walk_at "gg"
      exact k _ e1
    | some u =>
      rw [q2] at k hv1
      obtain ⟨ta, rfl, hta⟩ := id ht
      obtain ⟨ua, rfl, hua⟩ := id hv1
      have hta1 := Evl.ex_t e1 hta
      walk_at "gg"
      exact k _ e1
theorem ok_law_moved (T : Txt w K mg) : FnOk P w K mg base CX0 6 T.f_law_moved.f T.f_law_moved.fd ["way", "zone", "rule", "t", "d", "e"] (sp_law_moved K) := by
  refine T.f_law_moved.F.ok sc_law_moved (fun vs H Q E h => ?_) (fun cdv A outer s H vs Q E hr h => ?_)
  · obtain ⟨wv, zv, tv, w, z, r, t, d, e, rfl, _⟩ := h
    rfl
  obtain ⟨wv, zv, tv, w, z, r, t, d, e, rfl, hr5, hwv, hv, hz, ht, qt, t1, t2, d1, d2, e1, e2, k⟩ := h
  refine ⟨(tSeq (tAsg (tCall (sp_law_add K) [] E0 (tCons (tVar 0) (tCons (tVar 1) (tCons (tVar 3) (tCons (tVar 4) tNil))))) (gName 6)) (tSeq (tIfS (tTest (tOp (rEqD K) (tVar 6) (tC (.str "refused")))) (tRet (tAndV (tOp rEq (tVar 2) (tC (.str "later"))) (tOp (rI0 fun i j => .bl (decide (i ≤ j))) (tVar 4) (tC (.int 0))))) tNext) (tSeq (tIfS (tTest (tOp rEq (tVar 2) (tC (.str "there and back")))) (tRet (tOp (rEqD K) (tCall (sp_law_add K) [] E0 (tCons (tVar 0) (tCons (tVar 1) (tCons (tVar 6) (tCons (tOp (rI0 fun i j => .int (i - j)) (tC (.int 0)) (tVar 4)) tNil))))) (tVar 3))) tNext) (tSeq (tIfS (tTest (tOp rEq (tVar 2) (tC (.str "sum of durations")))) (tSeq (tAsg (tCall (sp_law_add K) [] E0 (tCons (tVar 0) (tCons (tVar 1) (tCons (tVar 6) (tCons (tVar 5) tNil))))) (gName 7)) (tRet (tAndV (tOp (rNeD K) (tVar 7) (tC (.str "refused"))) (tOp (rEqD K) (tVar 7) (tCall (sp_law_add K) [] E0 (tCons (tVar 0) (tCons (tVar 1) (tCons (tVar 3) (tCons (tOp (rI0 fun i j => .int (i + j)) (tVar 4) (tVar 5)) tNil))))))))) tNext) (tSeq (tIfS (tTest (tOp rEq (tVar 2) (tC (.str "elapsed time")))) (tRet (tOp rEq (tOp (rI0 fun i j => .int (i - j)) (tCall (sp_law_instant K) [] E0 (tCons (tVar 0) (tCons (tVar 1) (tCons (tVar 6) tNil)))) (tCall (sp_law_instant K) [] E0 (tCons (tVar 0) (tCons (tVar 1) (tCons (tVar 3) tNil))))) (tVar 4))) tNext) (tRet (tOrV (tOp rEq (tVar 2) (tC (.str "sums told"))) (tOrV (tOp (rI0 fun i j => .bl (decide (i ≤ j))) (tVar 4) (tC (.int 0))) (tOp rEq (tCall (sp_law_order K) [] E0 (tCons (tVar 0) (tCons (tVar 1) (tCons (tVar 3) (tCons (tVar 6) tNil))))) (tOp (rI0 fun i j => .int (i - j)) (tC (.int 0)) (tC (.int 1)))))))))))),
    PSs.nox (pss_cons (ps_set (i := 6) sc_law_moved.nd rfl (Or.inl rfl) (pe_call (ok_law_add T) (hr.mono (by decide)) (by rfl) T.f_law_add.g T.f_law_add.F.kp T.f_law_add.b .nil pass0 (pa_cons (pv 0) (pa_cons (pv 1) (pa_cons (pv 3) (pa_cons (pv 4) pa_nil)))))) (pss_cons (ps_if (pt_cmpR (op_eqD hr.units) (pv 6) pe_str (nomark _)) (pss_one (ps_ret (pe_and (pe_cmpR op_eq (pv 2) pe_str (nomark _)) (pe_one (pe_cmpR op_le (pv 4) pe_int (nomark _)))))) pss_nil) (pss_cons (ps_if (pt_cmpR op_eq (pv 2) pe_str (nomark _)) (pss_one (ps_ret (pe_cmpR (op_eqD hr.units) (pe_call (ok_law_add T) (hr.mono (by decide)) (by rfl) T.f_law_add.g T.f_law_add.F.kp T.f_law_add.b .nil pass0 (pa_cons (pv 0) (pa_cons (pv 1) (pa_cons (pv 6) (pa_cons (pe_op op_sub pe_int (pv 4)) pa_nil))))) (pv 3) (nomark _)))) pss_nil) (pss_cons (ps_if (pt_cmpR op_eq (pv 2) pe_str (nomark _)) (pss_cons (ps_set (i := 7) sc_law_moved.nd rfl (Or.inl rfl) (pe_call (ok_law_add T) (hr.mono (by decide)) (by rfl) T.f_law_add.g T.f_law_add.F.kp T.f_law_add.b .nil pass0 (pa_cons (pv 0) (pa_cons (pv 1) (pa_cons (pv 6) (pa_cons (pv 5) pa_nil)))))) (pss_one (ps_ret (pe_and (pe_cmpR (op_neD hr.units) (pv 7) pe_str (nomark _)) (pe_one (pe_cmpR (op_eqD hr.units) (pv 7) (pe_call (ok_law_add T) (hr.mono (by decide)) (by rfl) T.f_law_add.g T.f_law_add.F.kp T.f_law_add.b .nil pass0 (pa_cons (pv 0) (pa_cons (pv 1) (pa_cons (pv 3) (pa_cons (pe_op op_add (pv 4) (pv 5)) pa_nil))))) (nomark _))))))) pss_nil) (pss_cons (ps_if (pt_cmpR op_eq (pv 2) pe_str (nomark _)) (pss_one (ps_ret (pe_cmpR op_eq (pe_op op_sub (pe_call (ok_law_instant T) (hr.mono (by decide)) (by rfl) T.f_law_instant.g T.f_law_instant.F.kp T.f_law_instant.b .nil pass0 (pa_cons (pv 0) (pa_cons (pv 1) (pa_cons (pv 6) pa_nil)))) (pe_call (ok_law_instant T) (hr.mono (by decide)) (by rfl) T.f_law_instant.g T.f_law_instant.F.kp T.f_law_instant.b .nil pass0 (pa_cons (pv 0) (pa_cons (pv 1) (pa_cons (pv 3) pa_nil))))) (pv 4) (nomark _)))) pss_nil) (pss_one (ps_ret (pe_or (pe_cmpR op_eq (pv 2) pe_str (nomark _)) (pe_or (pe_cmpR op_le (pv 4) pe_int (nomark _)) (pe_one (pe_cmpR op_eq (pe_call (ok_law_order T) (hr.mono (by decide)) (by rfl) T.f_law_order.g T.f_law_order.F.kp T.f_law_order.b .nil pass0 (pa_cons (pv 0) (pa_cons (pv 1) (pa_cons (pv 3) (pa_cons (pv 6) pa_nil))))) (pe_op op_sub pe_int pe_int) (nomark _)))))))))))), ?_⟩
  walk_at "gg"
  refine ⟨_, _, _, _, _, some t, _, rfl, hwv, hv, hz, ht, fun x q => ?_, fun x q => ?_, fun av H1 x1 ha => ?_⟩
  · cases q
    exact ⟨qt, by unfold Sm; omega⟩
  · cases q
    unfold Sn
    omega
  walk_at "gg"
  refine g_eqT ha (b := none) rfl ?_
  unfold fMoved at k
  cases q : addT w z (some t) d with
  | none =>
    rw [q] at k
    walk_at "gg"
    rw [rule_is .later "later" rfl]
    refine if_d (fun c => ?_) (fun c => ?_)
    · subst c
      walk_at "gg"
      exact k _ x1
    · simp only [decide_eq_false c, Bool.false_and] at k
      exact k _ x1
  | some a =>
    rw [q] at k ha
    have qa := add_valid hz q
    have na := add_near hz qt q
    have hw1 := hwv.tr (TrT.of x1)
    have hz1 := hv.tr (TrT.of x1)
    have ht1 := ht.tr (TrT.of x1)
    have oka : ∀ o : Option Tm, o = some a → OkT w z o := by
      rintro _ rfl x q
      cases q
      exact ⟨qa, by unfold Sm; omega⟩
    walk_at "gg"
    rcases hr5 with rfl | rfl | rfl | rfl | rfl
    · walk_at "gg"
      refine ⟨_, _, _, _, _, some a, _, rfl, hw1, hz1, hz, ha, oka _ rfl, fun x q => ?_, fun bv H2 x2 hb => ?_⟩
      · cases q
        unfold Sn
        omega
      walk_at "gg"
      refine g_eqT hb (b := some t) (ht1.tr (TrT.of x2)) ?_
      exact k _ (x1.trans x2)
    · walk_at "gg"
      refine ⟨_, _, _, _, _, some a, _, rfl, hw1, hz1, hz, ha, oka _ rfl, fun x q => ?_, fun bv H2 x2 hb => ?_⟩
      · cases q
        unfold Sn
        omega
      walk_at "gg"
      refine g_neT hb (b := none) rfl ?_
      simp only at k
      cases q2 : addT w z (some a) e with
      | none =>
        rw [q2] at k
        walk_at "gg"
        exact k _ (x1.trans x2)
      | some b =>
        rw [q2] at k hb
        walk_at "gg"
        refine ⟨_, _, _, _, _, some t, _, rfl, hw1.tr (TrT.of x2), hz1.tr (TrT.of x2), hz, ht1.tr (TrT.of x2), fun x q => ?_, fun x q => ?_, fun cv H3 x3 hc => ?_⟩
        · cases q
          exact ⟨qt, by unfold Sm; omega⟩
        · cases q
          unfold Sn
          omega
        walk_at "gg"
        refine g_eqT (a := some b) (TV.tr (TrT.of x3) hb) hc ?_
        exact k _ ((x1.trans x2).trans x3)
    · walk_at "gg"
      refine ⟨_, _, _, _, _, a, rfl, hw1, hz1, hz, ha, qa, by unfold Sm; omega, fun H2 x2 => ?_⟩
      walk_at "gg"
      refine ⟨_, _, _, _, _, t, rfl, hw1.tr (TrT.of x2), hz1.tr (TrT.of x2), hz, ht1.tr (TrT.of x2), qt, by unfold Sm; omega, fun H3 x3 => ?_⟩
      walk_at "gg"
      exact k _ ((x1.trans x2).trans x3)
    · walk_at "gg"
      simp only at k
      refine if_d (fun c => ?_) (fun c => ?_)
      · rw [decide_eq_true c] at k
        exact k _ x1
      · rw [decide_eq_false c] at k
        walk_at "gg"
        refine ⟨_, _, _, _, _, _, some t, some a, rfl, hw1, hz1, hz, ht1, ha, fun x q => ?_, oka _ rfl, fun H2 x2 => ?_⟩
        · cases q
          exact ⟨qt, by unfold Sm; omega⟩
        rw [ord_some]
        walk_at "gg"
        exact k _ (x1.trans x2)
    · walk_at "gg"
      exact k _ x1
theorem ok_law_two (T : Txt w K mg) : FnOk P w K mg base CX0 6 T.f_law_two.f T.f_law_two.fd ["way", "zone", "rule", "t", "u", "d"] (sp_law_two K) := by
  refine T.f_law_two.F.ok sc_law_two (fun vs H Q E h => ?_) (fun cdv A outer s H vs Q E hr h => ?_)
  · obtain ⟨wv, zv, tv, uv, dv, w, z, r, t, u, d, rfl, _⟩ := h
    rfl
  obtain ⟨wv, zv, tv, uv, dv, w, z, r, t, u, d, rfl, hr8, hwv, hv, hz, ht, qt, t1, t2, hu, qu, u1, u2, hd, k⟩ := h
  have okt : ∀ o : Option Tm, o = some t → OkT w z o := by
    rintro _ rfl x q
    cases q
    exact ⟨qt, by unfold Sm; omega⟩
  have oku : ∀ o : Option Tm, o = some u → OkT w z o := by
    rintro _ rfl x q
    cases q
    exact ⟨qu, by unfold Sm; omega⟩
  have lt : w.ws = true → less_ w z u t = u.1 - t.1 := fun q => by
    unfold less_
    rw [q]
    rfl
  have nt := inst_near hz qt
  have nu := inst_near hz qu
  have bl : -2000100 ≤ less_ w z u t ∧ less_ w z u t ≤ 2000100 := by
    unfold less_
    split <;> omega
  refine ⟨(tSeq (tPar 6 7 (tCons (tCall (sp_law_order K) [] E0 (tCons (tVar 0) (tCons (tVar 1) (tCons (tVar 3) (tCons (tVar 4) tNil))))) (tCons (tOp rEq (tCall (sp_law_instant K) [] E0 (tCons (tVar 0) (tCons (tVar 1) (tCons (tVar 3) tNil)))) (tCall (sp_law_instant K) [] E0 (tCons (tVar 0) (tCons (tVar 1) (tCons (tVar 4) tNil))))) tNil))) (tSeq (tIfS (tTest (tOp rEq (tVar 2) (tC (.str "difference recovers")))) (tRet (tOp (rEqD K) (tCall (sp_law_add K) [] E0 (tCons (tVar 0) (tCons (tVar 1) (tCons (tVar 3) (tCons (tCall (sp_law_less K) [] E0 (tCons (tVar 0) (tCons (tVar 1) (tCons (tVar 4) (tCons (tVar 3) tNil))))) tNil))))) (tVar 4))) tNext) (tSeq (tIfS (tTest (tOp rEq (tVar 2) (tC (.str "order by difference")))) (tRet (tOp rEq (tOp (rI0 fun i j => .bl (decide (i < j))) (tVar 6) (tC (.int 0))) (tOp (rI0 fun i j => .bl (decide (j < i))) (tCall (sp_law_less K) [] E0 (tCons (tVar 0) (tCons (tVar 1) (tCons (tVar 4) (tCons (tVar 3) tNil))))) (tC (.int 0))))) tNext) (tSeq (tIfS (tTest (tOp rEq (tVar 2) (tC (.str "order of instants")))) (tRet (tOp rEq (tOp (rI0 fun i j => .bl (decide (i < j))) (tVar 6) (tC (.int 0))) (tOp (rI0 fun i j => .bl (decide (i < j))) (tCall (sp_law_instant K) [] E0 (tCons (tVar 0) (tCons (tVar 1) (tCons (tVar 3) tNil)))) (tCall (sp_law_instant K) [] E0 (tCons (tVar 0) (tCons (tVar 1) (tCons (tVar 4) tNil))))))) tNext) (tSeq (tIfS (tTest (tOp (rIn K false) (tVar 2) (tLst (tCons (tC (.str "order kept")) (tCons (tC (.str "equal sums")) tNil))))) (tSeq (tAsg (tIf (tTest (tOp rEq (tVar 2) (tC (.str "equal sums")))) (tC (.int 0)) (tOp (rI0 fun i j => .int (i - j)) (tC (.int 0)) (tC (.int 1)))) (gName 8)) (tRet (tOrV (tOp rNe (tVar 6) (tVar 8)) (tOp rEq (tCall (sp_law_order K) [] E0 (tCons (tVar 0) (tCons (tVar 1) (tCons (tCall (sp_law_add K) [] E0 (tCons (tVar 0) (tCons (tVar 1) (tCons (tVar 3) (tCons (tVar 5) tNil))))) (tCons (tCall (sp_law_add K) [] E0 (tCons (tVar 0) (tCons (tVar 1) (tCons (tVar 4) (tCons (tVar 5) tNil))))) tNil))))) (tVar 8))))) tNext) (tSeq (tIfS (tTest (tOp rEq (tVar 2) (tC (.str "equal means one instant")))) (tRet (tOrV (tOp rNe (tVar 6) (tC (.int 0))) (tVar 7))) tNext) (tRet (tOrV (tNotV (tVar 7)) (tIf (tTest (tOp rEq (tVar 2) (tC (.str "one instant means equal")))) (tOp rEq (tVar 6) (tC (.int 0))) (tOp (rEqD K) (tVar 3) (tVar 4))))))))))),
    PSs.nox (pss_cons (ps_par (by rfl) sc_law_two.nd rfl rfl (by decide) rfl rfl (pa_cons (pe_call (ok_law_order T) (hr.mono (by decide)) (by rfl) T.f_law_order.g T.f_law_order.F.kp T.f_law_order.b .nil pass0 (pa_cons (pv 0) (pa_cons (pv 1) (pa_cons (pv 3) (pa_cons (pv 4) pa_nil))))) (pa_cons (pe_cmpR op_eq (pe_call (ok_law_instant T) (hr.mono (by decide)) (by rfl) T.f_law_instant.g T.f_law_instant.F.kp T.f_law_instant.b .nil pass0 (pa_cons (pv 0) (pa_cons (pv 1) (pa_cons (pv 3) pa_nil)))) (pe_call (ok_law_instant T) (hr.mono (by decide)) (by rfl) T.f_law_instant.g T.f_law_instant.F.kp T.f_law_instant.b .nil pass0 (pa_cons (pv 0) (pa_cons (pv 1) (pa_cons (pv 4) pa_nil)))) (nomark _)) pa_nil)) (by rfl)) (pss_cons (ps_if (pt_cmpR op_eq (pv 2) pe_str (nomark _)) (pss_one (ps_ret (pe_cmpR (op_eqD hr.units) (pe_call (ok_law_add T) (hr.mono (by decide)) (by rfl) T.f_law_add.g T.f_law_add.F.kp T.f_law_add.b .nil pass0 (pa_cons (pv 0) (pa_cons (pv 1) (pa_cons (pv 3) (pa_cons (pe_call (ok_law_less T) (hr.mono (by decide)) (by rfl) T.f_law_less.g T.f_law_less.F.kp T.f_law_less.b .nil pass0 (pa_cons (pv 0) (pa_cons (pv 1) (pa_cons (pv 4) (pa_cons (pv 3) pa_nil))))) pa_nil))))) (pv 4) (nomark _)))) pss_nil) (pss_cons (ps_if (pt_cmpR op_eq (pv 2) pe_str (nomark _)) (pss_one (ps_ret (pe_cmpR op_eq (pe_cmpR op_lt (pv 6) pe_int (nomark _)) (pe_cmpR op_gt (pe_call (ok_law_less T) (hr.mono (by decide)) (by rfl) T.f_law_less.g T.f_law_less.F.kp T.f_law_less.b .nil pass0 (pa_cons (pv 0) (pa_cons (pv 1) (pa_cons (pv 4) (pa_cons (pv 3) pa_nil))))) pe_int (nomark _)) (nomark _)))) pss_nil) (pss_cons (ps_if (pt_cmpR op_eq (pv 2) pe_str (nomark _)) (pss_one (ps_ret (pe_cmpR op_eq (pe_cmpR op_lt (pv 6) pe_int (nomark _)) (pe_cmpR op_lt (pe_call (ok_law_instant T) (hr.mono (by decide)) (by rfl) T.f_law_instant.g T.f_law_instant.F.kp T.f_law_instant.b .nil pass0 (pa_cons (pv 0) (pa_cons (pv 1) (pa_cons (pv 3) pa_nil)))) (pe_call (ok_law_instant T) (hr.mono (by decide)) (by rfl) T.f_law_instant.g T.f_law_instant.F.kp T.f_law_instant.b .nil pass0 (pa_cons (pv 0) (pa_cons (pv 1) (pa_cons (pv 4) pa_nil)))) (nomark _)) (nomark _)))) pss_nil) (pss_cons (ps_if (pt_cmpR op_in_seq (pv 2) (pe_lst (pa_cons pe_str (pa_cons pe_str pa_nil))) (by rfl)) (pss_cons (ps_set (i := 8) sc_law_two.nd rfl (Or.inl rfl) (pe_ifExp (pt_cmpR op_eq (pv 2) pe_str (nomark _)) pe_int (pe_op op_sub pe_int pe_int))) (pss_one (ps_ret (pe_or (pe_cmpR op_ne (pv 6) (pv 8) (nomark _)) (pe_one (pe_cmpR op_eq (pe_call (ok_law_order T) (hr.mono (by decide)) (by rfl) T.f_law_order.g T.f_law_order.F.kp T.f_law_order.b .nil pass0 (pa_cons (pv 0) (pa_cons (pv 1) (pa_cons (pe_call (ok_law_add T) (hr.mono (by decide)) (by rfl) T.f_law_add.g T.f_law_add.F.kp T.f_law_add.b .nil pass0 (pa_cons (pv 0) (pa_cons (pv 1) (pa_cons (pv 3) (pa_cons (pv 5) pa_nil))))) (pa_cons (pe_call (ok_law_add T) (hr.mono (by decide)) (by rfl) T.f_law_add.g T.f_law_add.F.kp T.f_law_add.b .nil pass0 (pa_cons (pv 0) (pa_cons (pv 1) (pa_cons (pv 4) (pa_cons (pv 5) pa_nil))))) pa_nil))))) (pv 8) (nomark _))))))) pss_nil) (pss_cons (ps_if (pt_cmpR op_eq (pv 2) pe_str (nomark _)) (pss_one (ps_ret (pe_or (pe_cmpR op_ne (pv 6) pe_int (nomark _)) (pe_one (pv 7))))) pss_nil) (pss_one (ps_ret (pe_or (pe_not (pv 7)) (pe_one (pe_ifExp (pt_cmpR op_eq (pv 2) pe_str (nomark _)) (pe_cmpR op_eq (pv 6) pe_int (nomark _)) (pe_cmpR (op_eqD hr.units) (pv 3) (pv 4) (nomark _))))))))))))), ?_⟩
  walk_at "gg"
  refine ⟨_, _, _, _, _, _, some t, some u, rfl, hwv, hv, hz, ht, hu, okt _ rfl, oku _ rfl, fun H1 e1 => ?_⟩
  rw [ord_some]
  walk_at "gg"
  refine ⟨_, _, _, _, _, t, rfl, hwv.tr (TrT.of e1), hv.tr (TrT.of e1), hz, ht.tr (TrT.of e1), qt, by unfold Sm; omega, fun H2 e2 => ?_⟩
  have e12 := e1.trans e2
  walk_at "gg"
  refine ⟨_, _, _, _, _, u, rfl, hwv.tr (TrT.of e12), hv.tr (TrT.of e12), hz, hu.tr (TrT.of e12), qu, by unfold Sm; omega, fun H3 e3 => ?_⟩
  have e03 := e12.trans e3
  have hw3 := hwv.tr (TrT.of e03)
  have hz3 := hv.tr (TrT.of e03)
  have ht3 := ht.tr (TrT.of e03)
  have hu3 := hu.tr (TrT.of e03)
  clear hwv hv ht hu
  generalize hb : fTwo w z r t u d = b at k
  have k : ∀ H', Ex H3 H' → Q (.bl b) H' := fun H' x => k H' (e03.trans x)
  unfold fTwo at hb
  have kept : ∀ (want : Int) (r' : Rule), dv = .int d → -10000 ≤ d → d ≤ 10000 → (!decide (cmp (key w z t) (key w z u) = want) || decide (order w z (addT w z (some t) d) (addT w z (some u) d) = some want)) = b → ∀ (σ : St),
      σ[0]? = some (some wv) → σ[1]? = some (some zv) → σ[3]? = some (some tv) → σ[4]? = some (some uv) → σ[5]? = some (some dv) → σ[6]? = some (some (.int (cmp (key w z t) (key w z u)))) → σ[8]? = some (some (.int want)) → ∀ H4, Ex H3 H4 →
      if (!decide (cmp (key w z t) (key w z u) = want)) = true then Q (.bl true) H4 else
      tOp rEq (tCall (sp_law_order K) [] E0 (tCons (tVar 0) (tCons (tVar 1) (tCons (tCall (sp_law_add K) [] E0 (tCons (tVar 0) (tCons (tVar 1) (tCons (tVar 3) (tCons (tVar 5) tNil))))) (tCons (tCall (sp_law_add K) [] E0 (tCons (tVar 0) (tCons (tVar 1) (tCons (tVar 4) (tCons (tVar 5) tNil))))) tNil))))) (tVar 8) σ H4 Q := by
    intro want r' ed d1 d2 hb σ s0 s1 s3 s4 s5 s6 s8 H4 e4
    subst ed
    refine if_nd (fun c => ?_) (fun c => ?_)
    · rw [decide_eq_false c] at hb
      subst hb
      exact k _ e4
    rw [decide_eq_true c] at hb
    refine g_op ?_
    refine g_call ?_
    refine g_cons ?_
    refine g_var s0 ?_
    refine g_cons ?_
    refine g_var s1 ?_
    refine g_cons ?_
    refine g_call ?_
    refine g_cons ?_
    refine g_var s0 ?_
    refine g_cons ?_
    refine g_var s1 ?_
    refine g_cons ?_
    refine g_var s3 ?_
    refine g_cons ?_
    refine g_var s5 ?_
    refine g_nil ?_
    refine ⟨_, _, _, _, _, some t, _, rfl, hw3.tr (TrT.of e4), hz3.tr (TrT.of e4), hz, ht3.tr (TrT.of e4), okt _ rfl, fun x q => ?_, fun av H5 e5 ha => ?_⟩
    · cases q
      unfold Sn
      omega
    refine g_cons ?_
    refine g_call ?_
    refine g_cons ?_
    refine g_var s0 ?_
    refine g_cons ?_
    refine g_var s1 ?_
    refine g_cons ?_
    refine g_var s4 ?_
    refine g_cons ?_
    refine g_var s5 ?_
    refine g_nil ?_
    have e45 := e4.trans e5
    refine ⟨_, _, _, _, _, some u, _, rfl, hw3.tr (TrT.of e45), hz3.tr (TrT.of e45), hz, hu3.tr (TrT.of e45), oku _ rfl, fun x q => ?_, fun cv H6 e6 hc => ?_⟩
    · cases q
      unfold Sn
      omega
    refine g_nil ?_
    have e46 := e45.trans e6
    refine ⟨_, _, _, _, _, _, _, _, rfl, hw3.tr (TrT.of e46), hz3.tr (TrT.of e46), hz, TV.tr (TrT.of e6) ha, hc, fun x q => ?_, fun x q => ?_, fun H7 e7 => ?_⟩
    · have n1 := add_near hz qt q
      exact ⟨add_valid hz q, by unfold Sm; omega⟩
    · have n1 := add_near hz qu q
      exact ⟨add_valid hz q, by unfold Sm; omega⟩
    refine g_var s8 ?_
    refine g_eqO ?_
    rw [show (!true) = false from rfl, Bool.false_or] at hb
    subst hb
    exact k _ (e46.trans e7)
  rcases hr8 with rfl | rfl | rfl | rfl | rfl | rfl | rfl | rfl
  · walk_at "gg"
    refine ⟨_, _, _, _, _, _, u, t, rfl, hw3, hz3, hz, hu3, ht3, qu, by unfold Sm; omega, qt, by unfold Sm; omega, fun H4 e4 => ?_⟩
    walk_at "gg"
    refine ⟨_, _, _, _, _, some t, _, rfl, hw3.tr (TrT.of e4), hz3.tr (TrT.of e4), hz, ht3.tr (TrT.of e4), okt _ rfl, fun x q => ?_, fun av H5 e5 ha => ?_⟩
    · cases q
      unfold Sn
      omega
    walk_at "gg"
    refine g_eqT ha (b := some u) (hu3.tr (TrT.of (e4.trans e5))) ?_
    subst hb
    exact k _ (e4.trans e5)
  · walk_at "gg"
    refine ⟨_, _, _, _, _, _, u, t, rfl, hw3, hz3, hz, hu3, ht3, qu, by unfold Sm; omega, qt, by unfold Sm; omega, fun H4 e4 => ?_⟩
    walk_at "gg"
    subst hb
    exact k _ e4
  · walk_at "gg"
    refine g_newL (by simp) fun l4 H4 n4 e4 h4 => ?_
    refine g_inL (SqL.of h4) rfl rfl ?_
    walk_at "gg"
    subst hb
    refine if_nd (fun c => ?_) (fun c => ?_)
    · simp only [decide_eq_false c] at k
      exact k _ e4
    · simp only [decide_eq_true c] at k
      walk_at "gg"
      exact k _ e4
  · walk_at "gg"
    refine g_newL (by simp) fun l4 H4 n4 e4 h4 => ?_
    refine g_inL (SqL.of h4) rfl rfl ?_
    walk_at "gg"
    subst hb
    refine if_nd (fun c => ?_) (fun c => ?_)
    · simp only [decide_eq_false c] at k
      exact k _ e4
    · simp only [decide_eq_true c] at k
      walk_at "gg"
      exact k _ e4
  · walk_at "gg"
    refine g_newL (by simp) fun l4 H4 n4 e4 h4 => ?_
    refine g_inL (SqL.of h4) rfl rfl ?_
    walk_at "gg"
    subst hb
    refine if_nd (fun c => ?_) (fun c => ?_)
    · simp only [decide_eq_false c] at k
      exact k _ e4
    · simp only [decide_eq_true c] at k
      walk_at "gg"
      refine g_eqT (a := some t) (b := some u) (ht3.tr (TrT.of e4)) (hu3.tr (TrT.of e4)) ?_
      have ee : decide ((some t : Option Tm) = some u) = decide (t = u) := decide_eq_decide.mpr ⟨fun e => Option.some.inj e, fun e => by rw [e]⟩
      rw [ee]
      exact k _ e4
  · walk_at "gg"
    refine ⟨_, _, _, _, _, t, rfl, hw3, hz3, hz, ht3, qt, by unfold Sm; omega, fun H4 e4 => ?_⟩
    walk_at "gg"
    refine ⟨_, _, _, _, _, u, rfl, hw3.tr (TrT.of e4), hz3.tr (TrT.of e4), hz, hu3.tr (TrT.of e4), qu, by unfold Sm; omega, fun H5 e5 => ?_⟩
    walk_at "gg"
    subst hb
    exact k _ (e4.trans e5)
  · obtain ⟨rfl, d1, d2⟩ := hd (.inl rfl)
    walk_at "gg"
    refine g_newL (by simp) fun l4 H4 n4 e4 h4 => ?_
    refine g_inL (SqL.of h4) rfl rfl ?_
    walk_at "gg"
    refine kept (0 - 1) .kept rfl d1 d2 (by rw [show (0 - 1 : Int) = -1 by decide]; exact hb) _ ?_ ?_ ?_ ?_ ?_ ?_ ?_ _ e4 <;> rfl
  · obtain ⟨rfl, d1, d2⟩ := hd (.inr rfl)
    walk_at "gg"
    refine g_newL (by simp) fun l4 H4 n4 e4 h4 => ?_
    refine g_inL (SqL.of h4) rfl rfl ?_
    walk_at "gg"
    refine kept 0 .eqSums rfl d1 d2 hb _ ?_ ?_ ?_ ?_ ?_ ?_ ?_ _ e4 <;> rfl
end

/-- an argument of a rule: a number or a time -/
inductive It where
  | i (n : Int)
  | t (t : Tm)
def ItV (K : PySem.W.Frag) (H : Hp) (v : V) : It → Prop
  | .i n => v = .int n
  | .t t => PV K H v t
theorem ItV.tr {K : PySem.W.Frag} {H H' : Hp} {v : V} {a : It} (e : TrT K H H') (h : ItV K H v a) : ItV K H' v a := by
  cases a with
  | i n => exact h
  | t t => exact PV.tr e h
def ItOk (w : Way) (z : Zone) (word : Str) (a : It) : Prop :=
  (word = "time" ∧ ∃ t, a = .t t ∧ IsTm w z t ∧ -3000 ≤ t.1 ∧ t.1 ≤ 3000) ∨ (word = "duration" ∧ ∃ n, a = .i n ∧ -400 ≤ n ∧ n ≤ 400) ∨
  (word ≠ "time" ∧ word ≠ "duration" ∧ ∃ n, a = .i n ∧ -2000 ≤ n ∧ n ≤ 2000)
theorem ItOk.tm {w : Way} {z : Zone} {a : It} (h : ItOk w z "time" a) : ∃ t, a = .t t ∧ IsTm w z t ∧ -3000 ≤ t.1 ∧ t.1 ≤ 3000 := by
  rcases h with ⟨_, h⟩ | ⟨e, _⟩ | ⟨e, _⟩
  · exact h
  · exact absurd e (by decide +kernel)
  · exact absurd rfl e
theorem ItOk.du {w : Way} {z : Zone} {a : It} (h : ItOk w z "duration" a) : ∃ n, a = .i n ∧ -400 ≤ n ∧ n ≤ 400 := by
  rcases h with ⟨e, _⟩ | ⟨_, h⟩ | ⟨_, e, _⟩
  · exact absurd e (by decide +kernel)
  · exact h
  · exact absurd rfl e
theorem ItOk.nu {w : Way} {z : Zone} {a : It} {s : Str} (c : s ≠ "time") (h : ItOk w z s a) : ∃ n, a = .i n ∧ -2000 ≤ n ∧ n ≤ 2000 := by
  rcases h with ⟨e, _⟩ | ⟨_, n, e, b1, b2⟩ | ⟨_, _, h⟩
  · exact absurd e c
  · exact ⟨n, e, by omega, by omega⟩
  · exact h
theorem pd_self : ∀ ws : List Str, Paired (fun x d => x = V.str d) (ws.map V.str) ws
  | [] => .nil
  | w :: ws => .cons rfl (pd_self ws)
theorem pd_len {α β : Type} {F : α → β → Prop} : ∀ {xs : List α} {ys : List β}, Paired F xs ys → xs.length = ys.length
  | _, _, .nil => rfl
  | _, _, .cons _ t => by rw [List.length_cons, List.length_cons, pd_len t]
theorem shape_few (r : Rule) : (shapeR r).length ≤ 3 := by cases r <;> decide
/-- whether a rule holds for arguments -/
def fitsI (w : Way) (z : Zone) (r : Rule) : List It → Bool
  | [.i n] => (match r with | .fromU => fFrom w z n | .every => fEvery w z n | _ => fSome w z n)
  | [.t t] => (match r with | .toU => fTo w z t | _ => fSame w z t)
  | [.t t, .i d] => fMoved w z r t d d
  | [.t t, .i d, .i e] => fMoved w z r t d e
  | [.t t, .t u] => fTwo w z r t u 0
  | [.t t, .t u, .i d] => fTwo w z r t u d
  | _ => false
theorem args_inv {w : Way} {z : Zone} {r : Rule} {its : List It} (h : Paired (ItOk w z) (shapeR r) its) :
    ((r = .fromU ∨ r = .every ∨ r = .someR) ∧ (∃ s, shapeR r = [s]) ∧ ∃ n, its = [.i n] ∧ -2000 ≤ n ∧ n ≤ 2000) ∨
    ((r = .toU ∨ r = .same) ∧ (∃ s, shapeR r = [s]) ∧ ∃ t, its = [.t t] ∧ IsTm w z t ∧ -3000 ≤ t.1 ∧ t.1 ≤ 3000) ∨
    (isMoved r ∧ shapeR r = (["time", "duration"] : List Str) ∧ ∃ t d, its = [.t t, .i d] ∧ IsTm w z t ∧ -3000 ≤ t.1 ∧ t.1 ≤ 3000 ∧ -400 ≤ d ∧ d ≤ 400) ∨
    (isMoved r ∧ shapeR r = (["time", "duration", "duration"] : List Str) ∧ ∃ t d e, its = [.t t, .i d, .i e] ∧ IsTm w z t ∧ -3000 ≤ t.1 ∧ t.1 ≤ 3000 ∧ -400 ≤ d ∧ d ≤ 400 ∧ -400 ≤ e ∧ e ≤ 400) ∨
    ((isTwo r ∧ r ≠ .kept ∧ r ≠ .eqSums) ∧ shapeR r = (["time", "time"] : List Str) ∧ ∃ t u, its = [.t t, .t u] ∧ IsTm w z t ∧ -3000 ≤ t.1 ∧ t.1 ≤ 3000 ∧ IsTm w z u ∧ -3000 ≤ u.1 ∧ u.1 ≤ 3000) ∨
    (isTwo r ∧ shapeR r = (["time", "time", "duration"] : List Str) ∧ ∃ t u d, its = [.t t, .t u, .i d] ∧ IsTm w z t ∧ -3000 ≤ t.1 ∧ t.1 ≤ 3000 ∧ IsTm w z u ∧ -3000 ≤ u.1 ∧ u.1 ≤ 3000 ∧ -400 ≤ d ∧ d ≤ 400) := by
  have i1 : ∀ s : Str, s ≠ "time" → Paired (ItOk w z) [s] its → ∃ n, its = [.i n] ∧ -2000 ≤ n ∧ n ≤ 2000 := by
    rintro s c (_ | ⟨a, _ | _⟩)
    obtain ⟨n, rfl, b⟩ := a.nu c
    exact ⟨n, rfl, b⟩
  have i2 : Paired (ItOk w z) (["time"] : List Str) its → ∃ t, its = [.t t] ∧ IsTm w z t ∧ -3000 ≤ t.1 ∧ t.1 ≤ 3000 := by
    rintro (_ | ⟨a, _ | _⟩)
    obtain ⟨t, rfl, b⟩ := a.tm
    exact ⟨t, rfl, b⟩
  have i3 : Paired (ItOk w z) (["time", "duration"] : List Str) its → ∃ t d, its = [.t t, .i d] ∧ IsTm w z t ∧ -3000 ≤ t.1 ∧ t.1 ≤ 3000 ∧ -400 ≤ d ∧ d ≤ 400 := by
    rintro (_ | ⟨a, _ | ⟨b, _ | _⟩⟩)
    obtain ⟨t, rfl, t1, t2, t3⟩ := a.tm
    obtain ⟨d, rfl, d1, d2⟩ := b.du
    exact ⟨t, d, rfl, t1, t2, t3, d1, d2⟩
  have i4 : Paired (ItOk w z) (["time", "duration", "duration"] : List Str) its → ∃ t d e, its = [.t t, .i d, .i e] ∧ IsTm w z t ∧ -3000 ≤ t.1 ∧ t.1 ≤ 3000 ∧ -400 ≤ d ∧ d ≤ 400 ∧ -400 ≤ e ∧ e ≤ 400 := by
    rintro (_ | ⟨a, _ | ⟨b, _ | ⟨c, _ | _⟩⟩⟩)
    obtain ⟨t, rfl, t1, t2, t3⟩ := a.tm
    obtain ⟨d, rfl, d1, d2⟩ := b.du
    obtain ⟨e, rfl, e1, e2⟩ := c.du
    exact ⟨t, d, e, rfl, t1, t2, t3, d1, d2, e1, e2⟩
  have i5 : Paired (ItOk w z) (["time", "time"] : List Str) its → ∃ t u, its = [.t t, .t u] ∧ IsTm w z t ∧ -3000 ≤ t.1 ∧ t.1 ≤ 3000 ∧ IsTm w z u ∧ -3000 ≤ u.1 ∧ u.1 ≤ 3000 := by
    rintro (_ | ⟨a, _ | ⟨b, _ | _⟩⟩)
    obtain ⟨t, rfl, t1, t2, t3⟩ := a.tm
    obtain ⟨u, rfl, u1, u2, u3⟩ := b.tm
    exact ⟨t, u, rfl, t1, t2, t3, u1, u2, u3⟩
  have i6 : Paired (ItOk w z) (["time", "time", "duration"] : List Str) its → ∃ t u d, its = [.t t, .t u, .i d] ∧ IsTm w z t ∧ -3000 ≤ t.1 ∧ t.1 ≤ 3000 ∧ IsTm w z u ∧ -3000 ≤ u.1 ∧ u.1 ≤ 3000 ∧ -400 ≤ d ∧ d ≤ 400 := by
    rintro (_ | ⟨a, _ | ⟨b, _ | ⟨c, _ | _⟩⟩⟩)
    obtain ⟨t, rfl, t1, t2, t3⟩ := a.tm
    obtain ⟨u, rfl, u1, u2, u3⟩ := b.tm
    obtain ⟨d, rfl, d1, d2⟩ := c.du
    exact ⟨t, u, d, rfl, t1, t2, t3, u1, u2, u3, d1, d2⟩
  unfold isMoved isTwo
  cases r with
  | fromU => exact .inl ⟨by simp, ⟨_, rfl⟩, i1 _ (by decide +kernel) h⟩
  | every => exact .inl ⟨by simp, ⟨_, rfl⟩, i1 _ (by decide +kernel) h⟩
  | someR => exact .inl ⟨by simp, ⟨_, rfl⟩, i1 _ (by decide +kernel) h⟩
  | toU => exact .inr (.inl ⟨by simp, ⟨_, rfl⟩, i2 h⟩)
  | same => exact .inr (.inl ⟨by simp, ⟨_, rfl⟩, i2 h⟩)
  | sumD => exact .inr (.inr (.inr (.inl ⟨by simp, rfl, i4 h⟩)))
  | there => exact .inr (.inr (.inl ⟨by simp, rfl, i3 h⟩))
  | elapsed => exact .inr (.inr (.inl ⟨by simp, rfl, i3 h⟩))
  | later => exact .inr (.inr (.inl ⟨by simp, rfl, i3 h⟩))
  | told => exact .inr (.inr (.inl ⟨by simp, rfl, i3 h⟩))
  | kept => exact .inr (.inr (.inr (.inr (.inr ⟨by simp, rfl, i6 h⟩))))
  | eqSums => exact .inr (.inr (.inr (.inr (.inr ⟨by simp, rfl, i6 h⟩))))
  | diff => exact .inr (.inr (.inr (.inr (.inl ⟨by simp, rfl, i5 h⟩))))
  | ordDiff => exact .inr (.inr (.inr (.inr (.inl ⟨by simp, rfl, i5 h⟩))))
  | eqOne => exact .inr (.inr (.inr (.inr (.inl ⟨by simp, rfl, i5 h⟩))))
  | oneEq => exact .inr (.inr (.inr (.inr (.inl ⟨by simp, rfl, i5 h⟩))))
  | oneOne => exact .inr (.inr (.inr (.inr (.inl ⟨by simp, rfl, i5 h⟩))))
  | ordInst => exact .inr (.inr (.inr (.inr (.inl ⟨by simp, rfl, i5 h⟩))))
/-- a rule that holds holds for all arguments -/
theorem fits_all {w : Way} {z : Zone} {r : Rule} {its : List It} (hz : OkZ z) (H : Holds w z r) (p : Paired (ItOk w z) (shapeR r) its) : fitsI w z r its = true := by
  rcases args_inv p with ⟨c, _, n, rfl, _⟩ | ⟨c, _, t, rfl, q, _⟩ | ⟨c, _, t, d, rfl, q, _⟩ | ⟨c, _, t, d, e, rfl, q, _⟩ | ⟨⟨c, _⟩, _, t, u, rfl, q, _, _, q', _⟩ | ⟨c, _, t, u, d, rfl, q, _, _, q', _⟩
  · rcases c with rfl | rfl | rfl
    · exact all_T hz n H
    · exact all_rd hz (.inl rfl) n H
    · exact all_rd hz (.inr rfl) n H
  · rcases c with rfl | rfl
    · exact all_t hz (.inl rfl) q H
    · exact all_t hz (.inr rfl) q H
  · exact all_moved hz c q d d H
  · exact all_moved hz c q d e H
  · exact all_two hz c q q' 0 H
  · exact all_two hz c q q' d H
/-! ### promises -/
def sp_law_fits (K : PySem.W.Frag) : Sp := fun vs H Q _ => ∃ (wv zv : V) (w : Way) (z : Zone) (r : Rule) (p : Addr) (xs : List V) (its : List It), vs = [wv, zv, .str (ruleS r), .ref p] ∧ WayV K H wv w ∧ ZV K H zv z ∧ OkZ z ∧
  SqT K H p xs ∧ Paired (ItV K H) xs its ∧ Paired (ItOk w z) (shapeR r) its ∧ ∀ H', Ex H H' → Q (.bl (fitsI w z r its)) H'
def sp_law_arguments (K : PySem.W.Frag) : Sp := fun vs H Q _ => ∃ (ρ : Rw) (wv zv : V) (w : Way) (z : Zone) (r : Rule), vs = [.ref ρ.1, wv, zv, .str (ruleS r)] ∧ Row K H ρ ∧ WayV K H wv w ∧ ZV K H zv z ∧ OkZ z ∧
  ∀ p xs its H', Fr ρ.1 H H' → Row K H' ρ → SqT K H' p xs → Paired (ItV K H') xs its → Paired (ItOk w z) (shapeR r) its → Q (.ref p) H'
section
variable {P : Program} {w : World} {K : PySem.W.Frag} {mg : Str → Option Value} {base : Heap}
theorem ok_law_fits (T : Txt w K mg) : FnOk P w K mg base CX0 7 T.f_law_fits.f T.f_law_fits.fd ["way", "zone", "rule", "some"] (sp_law_fits K) := by
  refine T.f_law_fits.F.ok sc_law_fits (fun vs H Q E h => ?_) (fun cdv A outer s H vs Q E hr h => ?_)
  · obtain ⟨wv, zv, w, z, r, p, xs, its, rfl, _⟩ := h
    rfl
  obtain ⟨wv, zv, w, z, r, p, xs, its, rfl, hwv, hv, hz, hp, pvs, po, k⟩ := h
  refine ⟨(tSeq (tAsg (tCall (sp_law_shape K) [] E0 (tCons (tVar 2) tNil)) (gName 4)) (tSeq (tIfS (tTest (tOp rEq (tCB (Evl.rLenS K) (tCons (tVar 4) tNil)) (tC (.int 1)))) (tRet (tCall (sp_law_one K) [] E0 (tCons (tVar 0) (tCons (tVar 1) (tCons (tVar 2) (tCons (tOp (rIxT K) (tVar 3) (tC (.int 0))) tNil)))))) tNext) (tSeq (tIfS (tTest (tOp rEq (tOp (rIxT K) (tVar 4) (tC (.int 1))) (tC (.str "duration")))) (tRet (tCall (sp_law_moved K) [] E0 (tCons (tVar 0) (tCons (tVar 1) (tCons (tVar 2) (tCons (tOp (rIxT K) (tVar 3) (tC (.int 0))) (tCons (tOp (rIxT K) (tVar 3) (tC (.int 1))) (tCons (tOp (rIxT K) (tVar 3) (tUn (rU fun i => .int (-i)) (tC (.int 1)))) tNil)))))))) tNext) (tRet (tCall (sp_law_two K) [] E0 (tCons (tVar 0) (tCons (tVar 1) (tCons (tVar 2) (tCons (tOp (rIxT K) (tVar 3) (tC (.int 0))) (tCons (tOp (rIxT K) (tVar 3) (tC (.int 1))) (tCons (tOp (rIxT K) (tVar 3) (tUn (rU fun i => .int (-i)) (tC (.int 1)))) tNil))))))))))),
    PSs.nox (pss_cons (ps_set (i := 4) sc_law_fits.nd rfl (Or.inl rfl) (pe_call (ok_law_shape T) (hr.mono (by decide)) (by rfl) T.f_law_shape.g T.f_law_shape.F.kp T.f_law_shape.b .nil pass0 (pa_cons (pv 2) pa_nil))) (pss_cons (ps_if (pt_cmpR op_eq (pe_callB call_len_seq (by rfl) T.z_len (by decide +kernel) (pa_cons (pv 4) pa_nil)) pe_int (nomark _)) (pss_one (ps_ret (pe_call (ok_law_one T) (hr.mono (by decide)) (by rfl) T.f_law_one.g T.f_law_one.F.kp T.f_law_one.b .nil pass0 (pa_cons (pv 0) (pa_cons (pv 1) (pa_cons (pv 2) (pa_cons (pe_ix ix_tup (pv 3) pe_int (fun _ _ => rfl)) pa_nil))))))) pss_nil) (pss_cons (ps_if (pt_cmpR op_eq (pe_ix ix_tup (pv 4) pe_int (fun _ _ => rfl)) pe_str (nomark _)) (pss_one (ps_ret (pe_call (ok_law_moved T) (hr.mono (by decide)) (by rfl) T.f_law_moved.g T.f_law_moved.F.kp T.f_law_moved.b .nil pass0 (pa_cons (pv 0) (pa_cons (pv 1) (pa_cons (pv 2) (pa_cons (pe_ix ix_tup (pv 3) pe_int (fun _ _ => rfl)) (pa_cons (pe_ix ix_tup (pv 3) pe_int (fun _ _ => rfl)) (pa_cons (pe_ix ix_tup (pv 3) (pe_un un_neg pe_int) (fun _ _ => rfl)) pa_nil))))))))) pss_nil) (pss_one (ps_ret (pe_call (ok_law_two T) (hr.mono (by decide)) (by rfl) T.f_law_two.g T.f_law_two.F.kp T.f_law_two.b .nil pass0 (pa_cons (pv 0) (pa_cons (pv 1) (pa_cons (pv 2) (pa_cons (pe_ix ix_tup (pv 3) pe_int (fun _ _ => rfl)) (pa_cons (pe_ix ix_tup (pv 3) pe_int (fun _ _ => rfl)) (pa_cons (pe_ix ix_tup (pv 3) (pe_un un_neg pe_int) (fun _ _ => rfl)) pa_nil)))))))))))), ?_⟩
  walk_at "gg"
  refine ⟨r, rfl, fun q H1 e1 h1 => ?_⟩
  have hw1 := hwv.tr (TrT.of e1)
  have hv1 := hv.tr (TrT.of e1)
  have hp1 := Evl.ex_t e1 hp
  have pv1 : Paired (ItV K H1) xs its := L2.Paired.mapP pvs fun _ _ q => q.tr (TrT.of e1)
  have k : ∀ H', Ex H1 H' → Q (.bl (fitsI w z r its)) H' := fun H' e => k H' (e1.trans e)
  clear hwv hv hp pvs e1
  walk_at "gg"
  refine g_lenT h1 ?_
  rcases args_inv po with ⟨c, ⟨s, sh⟩, n, rfl, b1, b2⟩ | ⟨c, ⟨s, sh⟩, t, rfl, q, b1, b2⟩ | ⟨c, sh, t, d, rfl, q, b1, b2, d1, d2⟩ | ⟨c, sh, t, d, e, rfl, q, b1, b2, d1, d2, x1, x2⟩ | ⟨⟨c, c2, c3⟩, sh, t, u, rfl, q, b1, b2, q', b3, b4⟩ | ⟨c, sh, t, u, d, rfl, q, b1, b2, q', b3, b4, d1, d2⟩
  · rw [sh, show ((([s] : List Str).map V.str).length : Int) = 1 from rfl]
    rcases pv1 with _ | ⟨a, _ | _⟩
    cases a
    walk_at "gg"
    refine ⟨_, _, _, w, z, r, _, rfl, hw1, hv1, hz, ?_, k⟩
    rcases c with rfl | rfl | rfl <;> exact ⟨n, rfl, by unfold Sn; omega, rfl⟩
  · rw [sh, show ((([s] : List Str).map V.str).length : Int) = 1 from rfl]
    rcases pv1 with _ | ⟨a, _ | _⟩
    walk_at "gg"
    refine ⟨_, _, _, w, z, r, _, rfl, hw1, hv1, hz, ?_, k⟩
    rcases c with rfl | rfl <;> exact ⟨t, a, q, by omega, by omega, rfl⟩
  · rw [sh] at h1 ⊢
    rw [show (((["time", "duration"] : List Str).map V.str).length : Int) = 2 from rfl]
    rcases pv1 with _ | ⟨a, _ | ⟨b, _ | _⟩⟩
    cases b
    walk_at "gg"
    exact ⟨_, _, _, w, z, r, t, d, d, rfl, c, hw1, hv1, hz, a, q, by omega, by omega, by omega, by omega, by omega, by omega, k⟩
  · rw [sh] at h1 ⊢
    rw [show (((["time", "duration", "duration"] : List Str).map V.str).length : Int) = 3 from rfl]
    rcases pv1 with _ | ⟨a, _ | ⟨b, _ | ⟨f, _ | _⟩⟩⟩
    cases b
    cases f
    walk_at "gg"
    exact ⟨_, _, _, w, z, r, t, d, e, rfl, c, hw1, hv1, hz, a, q, by omega, by omega, by omega, by omega, by omega, by omega, k⟩
  · rw [sh] at h1 ⊢
    rw [show (((["time", "time"] : List Str).map V.str).length : Int) = 2 from rfl]
    rcases pv1 with _ | ⟨a, _ | ⟨b, _ | _⟩⟩
    walk_at "gg"
    exact ⟨_, _, _, _, _, w, z, r, t, u, 0, rfl, c, hw1, hv1, hz, a, q, by omega, by omega, b, q', by omega, by omega, fun x => (x.elim c2 c3).elim, k⟩
  · rw [sh] at h1 ⊢
    rw [show (((["time", "time", "duration"] : List Str).map V.str).length : Int) = 3 from rfl]
    rcases pv1 with _ | ⟨a, _ | ⟨b, _ | ⟨f, _ | _⟩⟩⟩
    cases f
    walk_at "gg"
    exact ⟨_, _, _, _, _, w, z, r, t, u, d, rfl, c, hw1, hv1, hz, a, q, by omega, by omega, b, q', by omega, by omega, fun _ => ⟨rfl, by omega, by omega⟩, k⟩
end

/-! ### arguments as written -/
def ArgsV (K : PySem.W.Frag) (H : Hp) (v : V) (its : List It) : Prop := ∃ a xs, v = .ref a ∧ SqT K H a xs ∧ Paired (ItV K H) xs its
theorem ArgsV.tr {K : PySem.W.Frag} {H H' : Hp} {v : V} {its : List It} (e : TrT K H H') (h : ArgsV K H v its) : ArgsV K H' v its := by
  obtain ⟨a, xs, q, h, p⟩ := h
  exact ⟨a, xs, q, e _ _ h, L2.Paired.mapP p fun _ _ q => q.tr e⟩
def EvI (te : TE) (n : Int) : Prop := ∀ σ H (Q : VK), Q (.int n) H → te σ H Q
def EvT (K : PySem.W.Frag) (te : TE) (it : It) : Prop := ∀ σ H (Q : VK), (∀ v H', Ex H H' → ItV K H' v it → Q v H') → te σ H Q
def EvL (K : PySem.W.Frag) (ta : TA) (its : List It) : Prop := ∀ σ H (R : List V → Hp → Prop), (∀ xs H', Ex H H' → Paired (ItV K H') xs its → R xs H') → ta σ H R
section
variable {K : PySem.W.Frag} {ta tb : TE} {tr : TA} {a b n : Int} {it : It} {its : List It}
theorem evI_lit : EvI (tC (.int n)) n := fun _ _ _ q => q
theorem evI_neg : EvI (tUn (rU fun i => .int (-i)) (tC (.int n))) (-n) := fun _ _ _ q => ⟨n, rfl, q⟩
theorem evT_i (h : EvI ta n) : EvT K ta (.i n) := fun σ H Q q => h σ H Q (q _ _ (Evl.Ex.refl _) rfl)
theorem evT_t (h1 : EvI ta a) (h2 : EvI tb b) : EvT K (tTup (tCons ta (tCons tb tNil))) (.t (a, b)) := fun σ H Q q =>
  h1 σ H _ (h2 σ H _ (g_newT (by simp) fun p H' _ e h => q _ _ e ⟨p, rfl, SqT.of h⟩))
theorem evL_nil : EvL K tNil [] := fun σ H R q => q [] H (Evl.Ex.refl _) .nil
theorem evL_cons (h1 : EvT K ta it) (h2 : EvL K tr its) : EvL K (tCons ta tr) (it :: its) := fun σ H R q =>
  h1 σ H _ fun v H1 e1 hv => h2 σ H1 _ fun xs H2 e2 hx => q _ _ (e1.trans e2) (.cons (hv.tr (TrT.of e2)) hx)
theorem g_args {σ : St} {H : Hp} {Q : VK} (h : EvL K tr its) (few : its.length ≤ 1000) (k : ∀ v H', Ex H H' → ArgsV K H' v its → Q v H') : tTup tr σ H Q :=
  h σ H _ fun xs H1 e1 hx => g_newT (by rw [Paired.length hx]; omega) fun p H2 n2 e2 h2 => k _ _ (e1.trans e2) ⟨p, xs, rfl, SqT.of h2, L2.Paired.mapP hx fun _ _ q => q.tr (TrT.of e2)⟩
end
local macro_rules | `(tactic| walk_at "lt") => `(tactic| first
  | with_reducible exact evL_nil
  | with_reducible exact evI_lit
  | with_reducible exact evI_neg
  | ((with_reducible refine evL_cons ?_ ?_) <;> walk_at "lt")
  | ((with_reducible refine evT_t ?_ ?_) <;> walk_at "lt")
  | ((with_reducible refine evT_i ?_) <;> walk_at "lt"))
local macro_rules | `(tactic| walk_at "ar") => `(tactic| (refine g_args (its := ?its) ?ev ?few ?k; (case ev => walk_at "lt"); (case few => decide)))
/-- the told arguments in the zone that skips -/
def gapArgs (w : Way) : Rule → List It
  | .toU => [.t (0, 0)]
  | .every => [.i 0]
  | .someR => [.i 0]
  | .there => if w.ws then [.t (-1, 0), .i 1] else [.t (0, 0), .i 1]
  | .sumD => [.t (-1, 0), .i 1, .i 2]
  | .elapsed => [.t (-1, 0), .i 3]
  | .same => if w.ws then [.t (-24, 0)] else [.t (-1, 0)]
  | .later => if w.gap = .keep then [.t (1, 0), .i 1] else [.t (-1, 0), .i 1]
  | .told => [.t (-1, 0), .i 1]
  | .diff => [.t (-1, 0), .t (0, 0)]
  | .kept => if w.ws then [.t (-2, 0), .t (-1, 0), .i 3] else [.t (0, 0), .t (2, 0), .i 1]
  | .eqSums => if w.gap = .keep then [.t (0, 0), .t (2, 0), .i 2] else [.t (-1, 0), .t (-1, 0), .i 1]
  | _ => [.t (0, 0), .t (2, 0)]
def nearA : List It := [.t (-1, 0), .i 1]
def farA : List It := [.t (0, 0), .i (-4)]
/-- the told arguments in the zone that repeats -/
def foldArgs (w : Way) : Rule → List It
  | .fromU => if w.fold = .second then [.i (-2)] else [.i 0]
  | .every => [.i (-1)]
  | .someR => [.i (-1)]
  | .there => if w.ws then (if w.fold = .both then [.t (-1, 1), .i 1] else [.t (0, 0), .i (-1)]) else (if w.fold = .first then [.t (-1, 0), .i 1] else [.t (0, 0), .i (-4)])
  | .sumD => if w.ws then [.t (0, 0), .i (-1), .i 1] else (if w.fold = .first then [.t (-1, 0), .i 1, .i 3] else [.t (0, 0), .i (-4), .i 4])
  | .elapsed => if w.ws then [.t (-3, 0), .i 3] else (if w.fold = .first then [.t (-1, 0), .i 1] else [.t (0, 0), .i (-4)])
  | .same => if w.ws then [.t (-25, 0)] else [.t (-3, 0)]
  | .later => if w.fold = .refuse then [.t (-3, 0), .i 2] else (if w.ws then [.t (-2, 1), .i 1] else [.t (-1, 0), .i 1])
  | .told => [.t (-3, 0), .i 2]
  | .diff => [.t (-3, 0), .t (-1, 1)]
  | .kept => if w.ws then (if w.fold = .refuse then [.t (-4, 0), .t (-3, 0), .i 2] else [.t (-1, 0), .t (-2, 1), .i 1]) else [.t (-5, 0), .t (-4, 0), .i 4]
  | .eqSums => if w.fold = .refuse then [.t (-3, 0), .t (-3, 0), .i 2] else [.t (-1, 0), .t (-1, 1), .i 1]
  | _ => [.t (-1, 0), .t (-1, 1)]
def cexO (w : Way) (kind : Str) (r : Rule) : Option (Zone × List It) :=
  if (kind = "skips" ∨ kind = "both") ∧ (met w r).1 = false then some ((0, [(0, 2)]), gapArgs w r)
  else if (kind = "repeats" ∨ kind = "both") ∧ (met w r).2 = false then some ((0, [(0, -2)]), foldArgs w r) else none
def CexV (K : PySem.W.Frag) (H : Hp) (v : V) : Option (Zone × List It) → Prop
  | none => v = .non
  | some c => ∃ a zv av, v = .ref a ∧ SqT K H a [zv, av] ∧ ZV K H zv c.1 ∧ ArgsV K H av c.2
def isKind (kind : Str) : Prop := kind = "fixed" ∨ kind = "skips" ∨ kind = "repeats" ∨ kind = "both"
theorem opt_two {α : Type} {c d : Prop} [Decidable c] [Decidable d] (x y : α) : (if c then some x else if d then some y else none).isNone = (!decide c && !decide d) := by
  by_cases hc : c
  · rw [if_pos hc, decide_eq_true hc]
    rfl
  · rw [if_neg hc, decide_eq_false hc]
    by_cases hd : d
    · rw [if_pos hd, decide_eq_true hd]
      rfl
    · rw [if_neg hd, decide_eq_false hd]
      rfl
theorem cex_holds {w : Way} {kind : Str} {r : Rule} (h : isKind kind) : (cexO w kind r).isNone = holdsB w kind r := by
  unfold cexO holdsB
  rw [opt_two]
  generalize (met w r).1 = a
  generalize (met w r).2 = b
  rcases h with rfl | rfl | rfl | rfl <;> cases a <;> cases b <;> decide +kernel
/-! ### all libraries, one by one -/
def allWays : List Way := [false, true].flatMap fun a => [false, true].flatMap fun b => [Gap.keep, .refuse, .shift].flatMap fun g => [Fold.both, .first, .refuse, .second].map fun f => ⟨a, b, g, f⟩
theorem way_mem (w : Way) : w ∈ allWays := by
  obtain ⟨a, b, g, f⟩ := w
  cases a <;> cases b <;> cases g <;> cases f <;> decide
theorem way_all' {p : Way → Prop} [DecidablePred p] (h : (allWays.all fun w => decide (p w)) = true) : ∀ w, p w := fun w => of_decide_eq_true (List.all_eq_true.mp h w (way_mem w))
theorem way_all (p : Way → Prop) [DecidablePred p] (h : (allWays.all fun w => decide (p w)) = true) (w : Way) : p w := of_decide_eq_true (List.all_eq_true.mp h w (way_mem w))
section
variable {σ : St} {H : Hp} {Q : VK} {ta tb : TE} {tt : TT} {v : V}
theorem g_evO (h : EvV (tOrV ta tb) σ H v) (q : Q v H) : tOrV ta tb σ H Q := h Q q
theorem g_evA (h : EvV (tAndV ta tb) σ H v) (q : Q v H) : tAndV ta tb σ H Q := h Q q
theorem g_evF (h : EvV (tIf tt ta tb) σ H v) (q : Q v H) : tIf tt ta tb σ H Q := h Q q
end
theorem bl_is {Q : VK} {H : Hp} {a b : Bool} (e : b = a) (k : Q (.bl b) H) : Q (.bl a) H := e ▸ k
/-! ### promises -/
def sp_holds_over_gaps (K : PySem.W.Frag) : Sp := fun vs H Q _ => ∃ (wv : V) (w : Way) (r : Rule), vs = [wv, .str (ruleS r)] ∧ WayV K H wv w ∧ ∀ H', Ex H H' → Q (.bl (met w r).1) H'
def sp_holds_over_folds (K : PySem.W.Frag) : Sp := fun vs H Q _ => ∃ (wv : V) (w : Way) (r : Rule), vs = [wv, .str (ruleS r)] ∧ WayV K H wv w ∧ ∀ H', Ex H H' → Q (.bl (met w r).2) H'
def sp_arguments_in_gap (K : PySem.W.Frag) : Sp := fun vs H Q _ => ∃ (wv : V) (w : Way) (r : Rule), vs = [wv, .str (ruleS r)] ∧ WayV K H wv w ∧ (met w r).1 = false ∧ ∀ v H', Ex H H' → ArgsV K H' v (gapArgs w r) → Q v H'
def sp_arguments_in_fold (K : PySem.W.Frag) : Sp := fun vs H Q _ => ∃ (wv : V) (w : Way) (r : Rule), vs = [wv, .str (ruleS r)] ∧ WayV K H wv w ∧ (met w r).2 = false ∧ ∀ v H', Ex H H' → ArgsV K H' v (foldArgs w r) → Q v H'
def sideR (r : Rule) : Prop := r = .there ∨ r = .sumD ∨ r = .elapsed ∨ r = .same ∨ r = .later ∨ r = .kept
def sp_arguments_in_fold_for_wall_sums (K : PySem.W.Frag) : Sp := fun vs H Q _ => ∃ (w : Way) (r : Rule), vs = [.str (foldS w.fold), .str (ruleS r)] ∧ w.ws = true ∧ sideR r ∧ (r = .later → w.fold ≠ .refuse) ∧ ∀ v H', Ex H H' → ArgsV K H' v (foldArgs w r) → Q v H'
def sp_arguments_in_fold_for_elapsed_sums (K : PySem.W.Frag) : Sp := fun vs H Q _ => ∃ (w : Way) (r : Rule), vs = [.str (foldS w.fold), .str (ruleS r)] ∧ w.ws = false ∧ sideR r ∧ (r = .later → w.fold ≠ .refuse) ∧ ∀ v H', Ex H H' → ArgsV K H' v (foldArgs w r) → Q v H'
def sp_check_kind (K : PySem.W.Frag) : Sp := fun vs H Q _ => ∃ kind : Str, vs = [.str kind] ∧ isKind kind ∧ Q .non H
def sp_is_rule (K : PySem.W.Frag) : Sp := fun vs H Q _ => ∃ r : Rule, vs = [.str (ruleS r)] ∧ Q (.bl true) H
def sp_check_rule (K : PySem.W.Frag) : Sp := fun vs H Q _ => ∃ r : Rule, vs = [.str (ruleS r)] ∧ Q .non H
def sp_counterexample (K : PySem.W.Frag) : Sp := fun vs H Q _ => ∃ (wv : V) (w : Way) (kind : Str) (r : Rule), vs = [wv, .str kind, .str (ruleS r)] ∧ WayV K H wv w ∧ isKind kind ∧ ∀ v H', Ex H H' → CexV K H' v (cexO w kind r) → Q v H'
def sp_holds (K : PySem.W.Frag) : Sp := fun vs H Q _ => ∃ (wv : V) (w : Way) (kind : Str) (r : Rule), vs = [wv, .str kind, .str (ruleS r)] ∧ WayV K H wv w ∧ isKind kind ∧ ∀ H', Ex H H' → Q (.bl (holdsB w kind r)) H'
section
variable {P : Program} {w : World} {K : PySem.W.Frag} {mg : Str → Option Value} {base : Heap}
theorem ok_holds_over_gaps (T : Txt w K mg) : FnOk P w K mg base CX0 1 T.f_holds_over_gaps.f T.f_holds_over_gaps.fd ["library", "rule"] (sp_holds_over_gaps K) := by
  refine T.f_holds_over_gaps.F.ok sc_holds_over_gaps (fun vs H Q E h => ?_) (fun cdv A outer s H vs Q E hr h => ?_)
  · obtain ⟨wv, w, r, rfl, _⟩ := h
    rfl
  obtain ⟨wv, w, r, rfl, ⟨a, rfl, hw⟩, k0⟩ := h
  refine ⟨(tSeq (tAsg (tVar 0) (gTup K 4 (gCons (gName 2) (gCons (gName 3) (gCons (gName 4) (gCons (gName 5) gNil)))))) (tMatch (tVar 1) [(["from universal and back", "equal means one instant"], (tRet (tC (.bl true)))), (["to universal and back", "one instant, one time"], (tRet (tOp rNe (tVar 4) (tC (.str "keep"))))), (["every reading"], (tRet (tOp rEq (tVar 4) (tC (.str "keep"))))), (["some reading"], (tRet (tOp rNe (tVar 4) (tC (.str "refuse"))))), (["there and back"], (tRet (tIf (tTest (tOp rEq (tVar 2) (tC (.str "wall")))) (tOp rEq (tVar 4) (tC (.str "keep"))) (tOp rNe (tVar 4) (tC (.str "keep")))))), (["sum of durations"], (tRet (tOrV (tOp rEq (tVar 2) (tC (.str "elapsed"))) (tOp rEq (tVar 4) (tC (.str "keep")))))), (["elapsed time"], (tRet (tOp rEq (tVar 2) (tC (.str "elapsed"))))), (["same clock"], (tRet (tAndV (tOp rEq (tVar 2) (tC (.str "wall"))) (tOp rEq (tVar 4) (tC (.str "keep")))))), (["later", "equal sums"], (tRet (tOrV (tOp rEq (tVar 2) (tC (.str "elapsed"))) (tOrV (tOp rEq (tVar 4) (tC (.str "shift"))) (tAndV (tOp rEq (tVar 4) (tC (.str "keep"))) (tOp rEq (tVar 3) (tC (.str "wall")))))))), (["sums told"], (tRet (tOrV (tOp rEq (tVar 2) (tC (.str "elapsed"))) (tOp rNe (tVar 4) (tC (.str "refuse")))))), (["difference recovers"], (tRet (tOrV (tOp rEq (tVar 2) (tC (.str "wall"))) (tOp rNe (tVar 4) (tC (.str "keep")))))), (["order by difference"], (tRet (tOrV (tOp rEq (tVar 2) (tVar 3)) (tOp rNe (tVar 4) (tC (.str "keep")))))), (["one instant means equal", "order of instants"], (tRet (tOrV (tOp rEq (tVar 3) (tC (.str "elapsed"))) (tOp rNe (tVar 4) (tC (.str "keep")))))), (["order kept"], (tSeq (tIfS (tTest (tOp rEq (tVar 2) (tC (.str "wall")))) (tRet (tAndV (tOp rEq (tVar 3) (tC (.str "wall"))) (tOp rEq (tVar 4) (tC (.str "keep"))))) tNext) (tRet (tOrV (tOp rEq (tVar 3) (tC (.str "elapsed"))) (tOp rNe (tVar 4) (tC (.str "keep")))))))])),
    PSs.nox (pss_cons (ps_asg (pv 0) (pg_tup rfl (pgs_cons (pg_name (i := 2) sc_holds_over_gaps.nd rfl (Or.inl rfl)) (pgs_cons (pg_name (i := 3) sc_holds_over_gaps.nd rfl (Or.inl rfl)) (pgs_cons (pg_name (i := 4) sc_holds_over_gaps.nd rfl (Or.inl rfl)) (pgs_cons (pg_name (i := 5) sc_holds_over_gaps.nd rfl (Or.inl rfl)) pgs_nil)))))) (pss_one (ps_match (pv 1) (pcs_cons (pat_or (por_cons pat_str (por_cons pat_str por_nil))) (pss_one (ps_ret pe_bl)) (pcs_cons (pat_or (por_cons pat_str (por_cons pat_str por_nil))) (pss_one (ps_ret (pe_cmpR op_ne (pv 4) pe_str (nomark _)))) (pcs_cons pat_str (pss_one (ps_ret (pe_cmpR op_eq (pv 4) pe_str (nomark _)))) (pcs_cons pat_str (pss_one (ps_ret (pe_cmpR op_ne (pv 4) pe_str (nomark _)))) (pcs_cons pat_str (pss_one (ps_ret (pe_ifExp (pt_cmpR op_eq (pv 2) pe_str (nomark _)) (pe_cmpR op_eq (pv 4) pe_str (nomark _)) (pe_cmpR op_ne (pv 4) pe_str (nomark _))))) (pcs_cons pat_str (pss_one (ps_ret (pe_or (pe_cmpR op_eq (pv 2) pe_str (nomark _)) (pe_one (pe_cmpR op_eq (pv 4) pe_str (nomark _)))))) (pcs_cons pat_str (pss_one (ps_ret (pe_cmpR op_eq (pv 2) pe_str (nomark _)))) (pcs_cons pat_str (pss_one (ps_ret (pe_and (pe_cmpR op_eq (pv 2) pe_str (nomark _)) (pe_one (pe_cmpR op_eq (pv 4) pe_str (nomark _)))))) (pcs_cons (pat_or (por_cons pat_str (por_cons pat_str por_nil))) (pss_one (ps_ret (pe_or (pe_cmpR op_eq (pv 2) pe_str (nomark _)) (pe_or (pe_cmpR op_eq (pv 4) pe_str (nomark _)) (pe_one (pe_and (pe_cmpR op_eq (pv 4) pe_str (nomark _)) (pe_one (pe_cmpR op_eq (pv 3) pe_str (nomark _))))))))) (pcs_cons pat_str (pss_one (ps_ret (pe_or (pe_cmpR op_eq (pv 2) pe_str (nomark _)) (pe_one (pe_cmpR op_ne (pv 4) pe_str (nomark _)))))) (pcs_cons pat_str (pss_one (ps_ret (pe_or (pe_cmpR op_eq (pv 2) pe_str (nomark _)) (pe_one (pe_cmpR op_ne (pv 4) pe_str (nomark _)))))) (pcs_cons pat_str (pss_one (ps_ret (pe_or (pe_cmpR op_eq (pv 2) (pv 3) (nomark _)) (pe_one (pe_cmpR op_ne (pv 4) pe_str (nomark _)))))) (pcs_cons (pat_or (por_cons pat_str (por_cons pat_str por_nil))) (pss_one (ps_ret (pe_or (pe_cmpR op_eq (pv 3) pe_str (nomark _)) (pe_one (pe_cmpR op_ne (pv 4) pe_str (nomark _)))))) (pcs_cons pat_str (pss_cons (ps_if (pt_cmpR op_eq (pv 2) pe_str (nomark _)) (pss_one (ps_ret (pe_and (pe_cmpR op_eq (pv 3) pe_str (nomark _)) (pe_one (pe_cmpR op_eq (pv 4) pe_str (nomark _)))))) pss_nil) (pss_one (ps_ret (pe_or (pe_cmpR op_eq (pv 3) pe_str (nomark _)) (pe_one (pe_cmpR op_ne (pv 4) pe_str (nomark _))))))) pcs_nil))))))))))))))))), ?_⟩
  have k := k0 _ (Evl.Ex.refl _)
  walk_at "qq"
  cases r <;> walk_at "mm"
  all_goals
    first
    | with_reducible exact k
    | (with_reducible refine bl_is ?_ k
       clear hw k k0
       revert w
       exact way_all' (by decide +kernel))
    | (with_reducible apply g_evO
       walk_at "eb"
       with_reducible refine bl_is ?_ k
       clear hw k k0
       revert w
       exact way_all' (by decide +kernel))
    | (with_reducible apply g_evA
       walk_at "eb"
       with_reducible refine bl_is ?_ k
       clear hw k k0
       revert w
       exact way_all' (by decide +kernel))
    | (with_reducible apply g_evF
       walk_at "eb"
       with_reducible refine bl_is ?_ k
       clear hw k k0
       revert w
       exact way_all' (by decide +kernel))
    | skip
  with_reducible refine g_ifS ?_
  walk_at "mm"
  rw [sum_wall]
  cases hs : w.ws with
  | true =>
    walk_at "mm"
    with_reducible apply g_evA
    walk_at "eb"
    refine bl_is ?_ k
    clear hw k k0
    revert w
    exact way_all' (by decide +kernel)
  | false =>
    walk_at "mm"
    with_reducible apply g_evO
    walk_at "eb"
    refine bl_is ?_ k
    clear hw k k0
    revert w
    exact way_all' (by decide +kernel)
theorem ok_holds_over_folds (T : Txt w K mg) : FnOk P w K mg base CX0 1 T.f_holds_over_folds.f T.f_holds_over_folds.fd ["library", "rule"] (sp_holds_over_folds K) := by
  refine T.f_holds_over_folds.F.ok sc_holds_over_folds (fun vs H Q E h => ?_) (fun cdv A outer s H vs Q E hr h => ?_)
  · obtain ⟨wv, w, r, rfl, _⟩ := h
    rfl
  obtain ⟨wv, w, r, rfl, ⟨a, rfl, hw⟩, k0⟩ := h
  refine ⟨(tSeq (tAsg (tVar 0) (gTup K 4 (gCons (gName 2) (gCons (gName 3) (gCons (gName 4) (gCons (gName 5) gNil)))))) (tMatch (tVar 1) [(["to universal and back", "one instant means equal", "one instant, one time"], (tRet (tC (.bl true)))), (["from universal and back"], (tRet (tOp rEq (tVar 5) (tC (.str "both"))))), (["every reading", "some reading", "sums told"], (tRet (tOp rNe (tVar 5) (tC (.str "refuse"))))), (["there and back"], (tRet (tIf (tTest (tOp rEq (tVar 2) (tC (.str "wall")))) (tOp (rIn K false) (tVar 5) (tTup (tCons (tC (.str "first")) (tCons (tC (.str "second")) tNil)))) (tOp rEq (tVar 5) (tC (.str "both")))))), (["sum of durations"], (tRet (tIf (tTest (tOp rEq (tVar 2) (tC (.str "wall")))) (tOp rNe (tVar 5) (tC (.str "refuse"))) (tOp rEq (tVar 5) (tC (.str "both")))))), (["elapsed time"], (tRet (tAndV (tOp rEq (tVar 2) (tC (.str "elapsed"))) (tOp rEq (tVar 5) (tC (.str "both")))))), (["same clock"], (tRet (tAndV (tOp rEq (tVar 2) (tC (.str "wall"))) (tOp rNe (tVar 5) (tC (.str "refuse")))))), (["later"], (tRet (tOrV (tOp rEq (tVar 5) (tC (.str "second"))) (tOrV (tAndV (tOp rEq (tVar 2) (tC (.str "wall"))) (tOp rEq (tVar 5) (tC (.str "first")))) (tAndV (tOp rEq (tVar 5) (tC (.str "both"))) (tOp rEq (tVar 2) (tVar 3))))))), (["difference recovers"], (tRet (tOrV (tOp rEq (tVar 2) (tC (.str "elapsed"))) (tOp rNe (tVar 5) (tC (.str "both")))))), (["order by difference"], (tRet (tOrV (tOp rEq (tVar 2) (tVar 3)) (tOp rNe (tVar 5) (tC (.str "both")))))), (["equal means one instant", "order of instants"], (tRet (tOrV (tOp rEq (tVar 3) (tC (.str "elapsed"))) (tOp rNe (tVar 5) (tC (.str "both")))))), (["order kept"], (tSeq (tIfS (tTest (tOp rEq (tVar 2) (tC (.str "wall")))) (tRet (tOrV (tOp (rIn K false) (tVar 5) (tTup (tCons (tC (.str "first")) (tCons (tC (.str "second")) tNil)))) (tAndV (tOp rEq (tVar 5) (tC (.str "both"))) (tOp rEq (tVar 3) (tC (.str "wall")))))) tNext) (tRet (tAndV (tOp rEq (tVar 3) (tC (.str "elapsed"))) (tOp rEq (tVar 5) (tC (.str "both"))))))), (["equal sums"], (tRet (tOrV (tOp (rIn K false) (tVar 5) (tTup (tCons (tC (.str "first")) (tCons (tC (.str "second")) tNil)))) (tAndV (tOp rEq (tVar 5) (tC (.str "both"))) (tOrV (tOp rEq (tVar 2) (tC (.str "wall"))) (tOp rEq (tVar 3) (tC (.str "elapsed"))))))))])),
    PSs.nox (pss_cons (ps_asg (pv 0) (pg_tup rfl (pgs_cons (pg_name (i := 2) sc_holds_over_folds.nd rfl (Or.inl rfl)) (pgs_cons (pg_name (i := 3) sc_holds_over_folds.nd rfl (Or.inl rfl)) (pgs_cons (pg_name (i := 4) sc_holds_over_folds.nd rfl (Or.inl rfl)) (pgs_cons (pg_name (i := 5) sc_holds_over_folds.nd rfl (Or.inl rfl)) pgs_nil)))))) (pss_one (ps_match (pv 1) (pcs_cons (pat_or (por_cons pat_str (por_cons pat_str (por_cons pat_str por_nil)))) (pss_one (ps_ret pe_bl)) (pcs_cons pat_str (pss_one (ps_ret (pe_cmpR op_eq (pv 5) pe_str (nomark _)))) (pcs_cons (pat_or (por_cons pat_str (por_cons pat_str (por_cons pat_str por_nil)))) (pss_one (ps_ret (pe_cmpR op_ne (pv 5) pe_str (nomark _)))) (pcs_cons pat_str (pss_one (ps_ret (pe_ifExp (pt_cmpR op_eq (pv 2) pe_str (nomark _)) (pe_cmpR op_in_seq (pv 5) (pe_tup (pa_cons pe_str (pa_cons pe_str pa_nil))) (by rfl)) (pe_cmpR op_eq (pv 5) pe_str (nomark _))))) (pcs_cons pat_str (pss_one (ps_ret (pe_ifExp (pt_cmpR op_eq (pv 2) pe_str (nomark _)) (pe_cmpR op_ne (pv 5) pe_str (nomark _)) (pe_cmpR op_eq (pv 5) pe_str (nomark _))))) (pcs_cons pat_str (pss_one (ps_ret (pe_and (pe_cmpR op_eq (pv 2) pe_str (nomark _)) (pe_one (pe_cmpR op_eq (pv 5) pe_str (nomark _)))))) (pcs_cons pat_str (pss_one (ps_ret (pe_and (pe_cmpR op_eq (pv 2) pe_str (nomark _)) (pe_one (pe_cmpR op_ne (pv 5) pe_str (nomark _)))))) (pcs_cons pat_str (pss_one (ps_ret (pe_or (pe_cmpR op_eq (pv 5) pe_str (nomark _)) (pe_or (pe_and (pe_cmpR op_eq (pv 2) pe_str (nomark _)) (pe_one (pe_cmpR op_eq (pv 5) pe_str (nomark _)))) (pe_one (pe_and (pe_cmpR op_eq (pv 5) pe_str (nomark _)) (pe_one (pe_cmpR op_eq (pv 2) (pv 3) (nomark _))))))))) (pcs_cons pat_str (pss_one (ps_ret (pe_or (pe_cmpR op_eq (pv 2) pe_str (nomark _)) (pe_one (pe_cmpR op_ne (pv 5) pe_str (nomark _)))))) (pcs_cons pat_str (pss_one (ps_ret (pe_or (pe_cmpR op_eq (pv 2) (pv 3) (nomark _)) (pe_one (pe_cmpR op_ne (pv 5) pe_str (nomark _)))))) (pcs_cons (pat_or (por_cons pat_str (por_cons pat_str por_nil))) (pss_one (ps_ret (pe_or (pe_cmpR op_eq (pv 3) pe_str (nomark _)) (pe_one (pe_cmpR op_ne (pv 5) pe_str (nomark _)))))) (pcs_cons pat_str (pss_cons (ps_if (pt_cmpR op_eq (pv 2) pe_str (nomark _)) (pss_one (ps_ret (pe_or (pe_cmpR op_in_seq (pv 5) (pe_tup (pa_cons pe_str (pa_cons pe_str pa_nil))) (by rfl)) (pe_one (pe_and (pe_cmpR op_eq (pv 5) pe_str (nomark _)) (pe_one (pe_cmpR op_eq (pv 3) pe_str (nomark _)))))))) pss_nil) (pss_one (ps_ret (pe_and (pe_cmpR op_eq (pv 3) pe_str (nomark _)) (pe_one (pe_cmpR op_eq (pv 5) pe_str (nomark _))))))) (pcs_cons pat_str (pss_one (ps_ret (pe_or (pe_cmpR op_in_seq (pv 5) (pe_tup (pa_cons pe_str (pa_cons pe_str pa_nil))) (by rfl)) (pe_one (pe_and (pe_cmpR op_eq (pv 5) pe_str (nomark _)) (pe_one (pe_or (pe_cmpR op_eq (pv 2) pe_str (nomark _)) (pe_one (pe_cmpR op_eq (pv 3) pe_str (nomark _)))))))))) pcs_nil)))))))))))))))), ?_⟩
  have k := k0 _ (Evl.Ex.refl _)
  walk_at "qq"
  cases r <;> walk_at "mm"
  all_goals
    first
    | with_reducible exact k
    | (with_reducible refine bl_is ?_ k
       clear hw k k0
       revert w
       exact way_all' (by decide +kernel))
    | (with_reducible apply g_evO
       walk_at "eb"
       with_reducible refine bl_is ?_ k
       clear hw k k0
       revert w
       exact way_all' (by decide +kernel))
    | (with_reducible apply g_evA
       walk_at "eb"
       with_reducible refine bl_is ?_ k
       clear hw k k0
       revert w
       exact way_all' (by decide +kernel))
    | (with_reducible apply g_evF
       walk_at "eb"
       with_reducible refine bl_is ?_ k
       clear hw k k0
       revert w
       exact way_all' (by decide +kernel))
    | skip
  case there =>
    walk_at "qq"
    rw [sum_wall]
    cases hs : w.ws with
    | true =>
      walk_at "qq"
      refine g_tup ?_
      walk_at "qq"
      refine g_newT (by simp) fun p H1 n1 e1 h1 => ?_
      refine g_inTu (SqT.of h1) rfl rfl ?_
      refine bl_is ?_ (k0 _ e1)
      clear hw k k0
      revert w
      exact way_all' (by decide +kernel)
    | false =>
      walk_at "qq"
      refine bl_is ?_ k
      clear hw k k0
      revert w
      exact way_all' (by decide +kernel)
  case kept =>
    walk_at "qq"
    rw [sum_wall]
    cases hs : w.ws with
    | true =>
      walk_at "qq"
      refine g_tup ?_
      walk_at "qq"
      refine g_newT (by simp) fun p H1 n1 e1 h1 => ?_
      refine g_inTu (SqT.of h1) rfl rfl ?_
      walk_at "mm"
      refine if_b (fun c => ?_) (fun c => ?_)
      · refine bl_is ?_ (k0 _ e1)
        clear hw k k0
        revert w
        exact way_all' (by decide +kernel)
      · with_reducible apply g_evA
        walk_at "eb"
        refine bl_is ?_ (k0 _ e1)
        clear hw k k0
        revert w
        exact way_all' (by decide +kernel)
    | false =>
      walk_at "mm"
      with_reducible apply g_evA
      walk_at "eb"
      refine bl_is ?_ k
      clear hw k k0
      revert w
      exact way_all' (by decide +kernel)
  case eqSums =>
    walk_at "qq"
    refine g_tup ?_
    walk_at "qq"
    refine g_newT (by simp) fun p H1 n1 e1 h1 => ?_
    refine g_inTu (SqT.of h1) rfl rfl ?_
    walk_at "mm"
    refine if_b (fun c => ?_) (fun c => ?_)
    · refine bl_is ?_ (k0 _ e1)
      clear hw k k0
      revert w
      exact way_all' (by decide +kernel)
    · with_reducible apply g_evA
      walk_at "eb"
      refine bl_is ?_ (k0 _ e1)
      clear hw k k0
      revert w
      exact way_all' (by decide +kernel)
end
/-! the told arguments break the rules whose condition is not met -/
def gapZ : Zone := (0, [(0, 2)])
def foldZ : Zone := (0, [(0, -2)])
def okIt (w : Way) (z : Zone) (word : Str) : It → Bool
  | .t t => decide (word = "time") && (decide (t ∈ times w z t.1) && (decide (-3000 ≤ t.1) && decide (t.1 ≤ 3000)))
  | .i n => !decide (word = "time") && (decide (-400 ≤ n) && decide (n ≤ 400))
theorem okIt_ok {w : Way} {z : Zone} {word : Str} {a : It} (h : okIt w z word a = true) : ItOk w z word a := by
  cases a with
  | t t =>
    simp only [okIt, Bool.and_eq_true, decide_eq_true_eq] at h
    exact .inl ⟨h.1, t, rfl, h.2.1, h.2.2.1, h.2.2.2⟩
  | i n =>
    simp only [okIt, Bool.and_eq_true, decide_eq_true_eq, Bool.not_eq_true', decide_eq_false_iff_not] at h
    by_cases c : word = "duration"
    · exact .inr (.inl ⟨c, n, rfl, h.2.1, h.2.2⟩)
    · exact .inr (.inr ⟨h.1, c, n, rfl, by omega, by omega⟩)
def okArgs (w : Way) (z : Zone) : List Str → List It → Bool
  | [], [] => true
  | s :: ss, a :: as => okIt w z s a && okArgs w z ss as
  | _, _ => false
theorem okArgs_ok {w : Way} {z : Zone} : ∀ {ss : List Str} {as : List It}, okArgs w z ss as = true → Paired (ItOk w z) ss as
  | [], [], _ => .nil
  | [], _ :: _, h => by cases h
  | _ :: _, [], h => by cases h
  | s :: ss, a :: as, h => by
    have h : (okIt w z s a && okArgs w z ss as) = true := h
    rw [Bool.and_eq_true] at h
    exact .cons (okIt_ok h.1) (okArgs_ok h.2)
theorem gap_all : (allWays.all fun w => allR.all fun r => (met w r).1 || (okArgs w gapZ (shapeR r) (gapArgs w r) && !fitsI w gapZ r (gapArgs w r))) = true := by decide +kernel
theorem fold_all : (allWays.all fun w => allR.all fun r => (met w r).2 || (okArgs w foldZ (shapeR r) (foldArgs w r) && !fitsI w foldZ r (foldArgs w r))) = true := by decide +kernel
theorem gap_breaks {w : Way} {r : Rule} (h : (met w r).1 = false) : Paired (ItOk w gapZ) (shapeR r) (gapArgs w r) ∧ fitsI w gapZ r (gapArgs w r) = false := by
  have q := List.all_eq_true.mp (List.all_eq_true.mp gap_all w (way_mem w)) r (allR_mem r)
  rw [h, Bool.false_or, Bool.and_eq_true] at q
  exact ⟨okArgs_ok q.1, by simpa using q.2⟩
theorem fold_breaks {w : Way} {r : Rule} (h : (met w r).2 = false) : Paired (ItOk w foldZ) (shapeR r) (foldArgs w r) ∧ fitsI w foldZ r (foldArgs w r) = false := by
  have q := List.all_eq_true.mp (List.all_eq_true.mp fold_all w (way_mem w)) r (allR_mem r)
  rw [h, Bool.false_or, Bool.and_eq_true] at q
  exact ⟨okArgs_ok q.1, by simpa using q.2⟩
theorem gapZ_ok : okZ gapZ = true := by decide +kernel
theorem foldZ_ok : okZ foldZ = true := by decide +kernel
/-! all times near one change: what they tell of a rule -/
def spots : List Int := irange (-6) 13 ++ [-25, -24]
def tms (w : Way) (z : Zone) : List Tm := spots.flatMap (times w z)
def Ds : List Int := [-4, -1, 1, 2, 3, 4]
def Es : List Int := [-1, 1, 2, 3, 4]
def Fs : List Int := [1, 2, 3, 4]
def isRd (r : Rule) : Bool := decide (r = .fromU) || (decide (r = .every) || decide (r = .someR))
def cat : Rule → Nat
  | .fromU => 0
  | .toU => 0
  | .every => 0
  | .someR => 0
  | .same => 0
  | .there => 1
  | .sumD => 1
  | .elapsed => 1
  | .later => 1
  | .told => 1
  | _ => 2
def oneIt (r : Rule) (t : Tm) : It := if isRd r = true then .i (t.1 + 2) else .t t
def goodT (w : Way) (z : Zone) (r : Rule) (t : Tm) : Bool := match cat r with
  | 0 => fitsI w z r [oneIt r t]
  | 1 => Ds.all fun d => Es.all fun e => fitsI w z r (([.t t, .i d, .i e] : List It).take (shapeR r).length)
  | _ => (tms w z).all fun u => Fs.all fun d => fitsI w z r (([.t t, .t u, .i d] : List It).take (shapeR r).length)
def goodX (w : Way) (z : Zone) (r : Rule) : Bool := (irange (-6) 13).all fun x => fitsI w z r [.i x]
theorem spot_lim {x : Int} (h : x ∈ spots) : -25 ≤ x ∧ x ≤ 6 := by
  unfold spots at h
  rcases List.mem_append.mp h with h | h
  · have := irange_mem.mp h
    omega
  · simp only [List.mem_cons, List.not_mem_nil, or_false] at h
    omega
theorem tms_ok {w : Way} {z : Zone} {t : Tm} (h : t ∈ tms w z) : IsTm w z t ∧ -25 ≤ t.1 ∧ t.1 ≤ 6 := by
  obtain ⟨x, hx, ht⟩ := List.mem_flatMap.mp h
  have e := times_rd ht
  have b := spot_lim hx
  refine ⟨?_, by omega, by omega⟩
  unfold IsTm
  rw [e]
  exact ht
section
variable {w : Way} {z : Zone} {r : Rule} {t u : Tm} {d e x : Int}
theorem it_tm (h : IsTm w z t) (b1 : -25 ≤ t.1) (b2 : t.1 ≤ 6) : ItOk w z "time" (.t t) := .inl ⟨rfl, t, rfl, h, by omega, by omega⟩
theorem it_du (b1 : -400 ≤ d) (b2 : d ≤ 400) : ItOk w z "duration" (.i d) := .inr (.inl ⟨rfl, d, rfl, b1, b2⟩)
theorem it_nu {s : Str} (h1 : s ≠ "time") (h2 : s ≠ "duration") (b1 : -400 ≤ d) (b2 : d ≤ 400) : ItOk w z s (.i d) := .inr (.inr ⟨h1, h2, d, rfl, by omega, by omega⟩)
theorem okOne (c : cat r = 0) (h : IsTm w z t) (b1 : -25 ≤ t.1) (b2 : t.1 ≤ 6) : Paired (ItOk w z) (shapeR r) [oneIt r t] := by
  cases r <;> first | (exfalso; revert c; decide) | exact .cons (it_tm h b1 b2) .nil | exact .cons (it_nu (by decide +kernel) (by decide +kernel) (by show -400 ≤ t.1 + 2; omega) (by show t.1 + 2 ≤ 400; omega)) .nil
theorem okMoved (c : cat r = 1) (h : IsTm w z t) (b1 : -25 ≤ t.1) (b2 : t.1 ≤ 6) (d1 : -400 ≤ d) (d2 : d ≤ 400) (e1 : -400 ≤ e) (e2 : e ≤ 400) : Paired (ItOk w z) (shapeR r) (([.t t, .i d, .i e] : List It).take (shapeR r).length) := by
  cases r <;> first | (exfalso; revert c; decide) | exact .cons (it_tm h b1 b2) (.cons (it_du d1 d2) .nil) | exact .cons (it_tm h b1 b2) (.cons (it_du d1 d2) (.cons (it_du e1 e2) .nil))
theorem okTwo (c : cat r = 2) (h : IsTm w z t) (b1 : -25 ≤ t.1) (b2 : t.1 ≤ 6) (h' : IsTm w z u) (b3 : -25 ≤ u.1) (b4 : u.1 ≤ 6) (d1 : -400 ≤ d) (d2 : d ≤ 400) : Paired (ItOk w z) (shapeR r) (([.t t, .t u, .i d] : List It).take (shapeR r).length) := by
  cases r <;> first | (exfalso; revert c; decide) | exact .cons (it_tm h b1 b2) (.cons (it_tm h' b3 b4) .nil) | exact .cons (it_tm h b1 b2) (.cons (it_tm h' b3 b4) (.cons (it_du d1 d2) .nil))
theorem okRd (c : isRd r = true) (b1 : -400 ≤ x) (b2 : x ≤ 400) : Paired (ItOk w z) (shapeR r) [.i x] := by
  cases r <;> first | (exfalso; revert c; decide) | exact .cons (it_nu (by decide +kernel) (by decide +kernel) b1 b2) .nil
theorem ds_lim (h : d ∈ Ds) : -400 ≤ d ∧ d ≤ 400 := by
  simp only [Ds, List.mem_cons, List.not_mem_nil, or_false] at h
  omega
theorem es_lim (h : d ∈ Es) : -400 ≤ d ∧ d ≤ 400 := by
  simp only [Es, List.mem_cons, List.not_mem_nil, or_false] at h
  omega
theorem fs_lim (h : d ∈ Fs) : -400 ≤ d ∧ d ≤ 400 := by
  simp only [Fs, List.mem_cons, List.not_mem_nil, or_false] at h
  omega
theorem cat_lt (r : Rule) : cat r = 0 ∨ cat r = 1 ∨ cat r = 2 := by cases r <;> simp [cat]
theorem good_all (hz : OkZ z) (H : Holds w z r) (h : t ∈ tms w z) : goodT w z r t = true := by
  obtain ⟨it, b1, b2⟩ := tms_ok h
  unfold goodT
  rcases cat_lt r with c | c | c <;> rw [c]
  · exact fits_all hz H (okOne c it b1 b2)
  · refine List.all_eq_true.mpr fun d hd => List.all_eq_true.mpr fun e he => ?_
    have := ds_lim hd
    have := es_lim he
    exact fits_all hz H (okMoved c it b1 b2 (by omega) (by omega) (by omega) (by omega))
  · refine List.all_eq_true.mpr fun u hu => List.all_eq_true.mpr fun d hd => ?_
    obtain ⟨iu, b3, b4⟩ := tms_ok hu
    have := fs_lim hd
    exact fits_all hz H (okTwo c it b1 b2 iu b3 b4 (by omega) (by omega))
theorem goodX_all (hz : OkZ z) (H : Holds w z r) (c : isRd r = true) : goodX w z r = true := by
  refine List.all_eq_true.mpr fun x hx => ?_
  have := irange_mem.mp hx
  exact fits_all hz H (okRd c (by omega) (by omega))
/-- the told arguments are among those that are tried -/
def inT (w : Way) (z : Zone) : List It → Bool
  | [.i x] => decide (x ∈ irange (-6) 13)
  | [.t t] => decide (t ∈ tms w z)
  | [.t t, .i d] => decide (t ∈ tms w z) && decide (d ∈ Ds)
  | [.t t, .i d, .i e] => decide (t ∈ tms w z) && (decide (d ∈ Ds) && decide (e ∈ Es))
  | [.t t, .t u] => decide (t ∈ tms w z) && decide (u ∈ tms w z)
  | [.t t, .t u, .i d] => decide (t ∈ tms w z) && (decide (u ∈ tms w z) && decide (d ∈ Fs))
  | _ => false
theorem gap_in : (allWays.all fun w => allR.all fun r => (met w r).1 || inT w gapZ (gapArgs w r)) = true := by decide +kernel
theorem fold_in : (allWays.all fun w => allR.all fun r => (met w r).2 || inT w foldZ (foldArgs w r)) = true := by decide +kernel
theorem bad_T {its : List It} (po : Paired (ItOk w z) (shapeR r) its) (f : fitsI w z r its = false) (i : inT w z its = true) : if isRd r = true then goodX w z r = false else (tms w z).all (goodT w z r) = false := by
  have cl : ∀ b : Bool, (b = true → False) → b = false := fun b h => by cases b; rfl; exact (h rfl).elim
  rcases args_inv po with ⟨c, _, n, rfl, _⟩ | ⟨c, _, t, rfl, _⟩ | ⟨c, sh, t, d, rfl, _⟩ | ⟨c, sh, t, d, e, rfl, _⟩ | ⟨⟨c, c2, c3⟩, sh, t, u, rfl, _⟩ | ⟨c, sh, t, u, d, rfl, _⟩
  · rw [if_pos (by rcases c with rfl | rfl | rfl <;> rfl)]
    refine cl _ fun g => ?_
    have := List.all_eq_true.mp g n (of_decide_eq_true i)
    rw [f] at this
    cases this
  · rw [if_neg (by rcases c with rfl | rfl <;> decide)]
    refine cl _ fun g => ?_
    have := List.all_eq_true.mp g t (of_decide_eq_true i)
    have : fitsI w z r [.t t] = true := by rcases c with rfl | rfl <;> exact this
    rw [f] at this
    cases this
  · have i : (decide (t ∈ tms w z) && decide (d ∈ Ds)) = true := i
    simp only [Bool.and_eq_true, decide_eq_true_eq] at i
    have cc : cat r = 1 ∧ ¬ isRd r = true := by unfold isMoved at c; rcases c with rfl | rfl | rfl | rfl | rfl <;> exact ⟨rfl, by decide⟩
    rw [if_neg cc.2]
    refine cl _ fun g => ?_
    have q := List.all_eq_true.mp g t i.1
    unfold goodT at q
    rw [cc.1] at q
    have q := List.all_eq_true.mp (List.all_eq_true.mp q d i.2) 1 (by decide)
    rw [sh] at q
    have q : fitsI w z r [.t t, .i d] = true := q
    rw [f] at q
    cases q
  · have i : (decide (t ∈ tms w z) && (decide (d ∈ Ds) && decide (e ∈ Es))) = true := i
    simp only [Bool.and_eq_true, decide_eq_true_eq] at i
    have cc : cat r = 1 ∧ ¬ isRd r = true := by unfold isMoved at c; rcases c with rfl | rfl | rfl | rfl | rfl <;> exact ⟨rfl, by decide⟩
    rw [if_neg cc.2]
    refine cl _ fun g => ?_
    have q := List.all_eq_true.mp g t i.1
    unfold goodT at q
    rw [cc.1] at q
    have q := List.all_eq_true.mp (List.all_eq_true.mp q d i.2.1) e i.2.2
    rw [sh] at q
    have q : fitsI w z r [.t t, .i d, .i e] = true := q
    rw [f] at q
    cases q
  · have i : (decide (t ∈ tms w z) && decide (u ∈ tms w z)) = true := i
    simp only [Bool.and_eq_true, decide_eq_true_eq] at i
    have cc : cat r = 2 ∧ ¬ isRd r = true := by unfold isTwo at c; rcases c with rfl | rfl | rfl | rfl | rfl | rfl | rfl | rfl <;> exact ⟨rfl, by decide⟩
    rw [if_neg cc.2]
    refine cl _ fun g => ?_
    have q := List.all_eq_true.mp g t i.1
    unfold goodT at q
    rw [cc.1] at q
    have q := List.all_eq_true.mp (List.all_eq_true.mp q u i.2) 1 (by decide)
    rw [sh] at q
    have q : fitsI w z r [.t t, .t u] = true := q
    rw [f] at q
    cases q
  · have i : (decide (t ∈ tms w z) && (decide (u ∈ tms w z) && decide (d ∈ Fs))) = true := i
    simp only [Bool.and_eq_true, decide_eq_true_eq] at i
    have cc : cat r = 2 ∧ ¬ isRd r = true := by unfold isTwo at c; rcases c with rfl | rfl | rfl | rfl | rfl | rfl | rfl | rfl <;> exact ⟨rfl, by decide⟩
    rw [if_neg cc.2]
    refine cl _ fun g => ?_
    have q := List.all_eq_true.mp g t i.1
    unfold goodT at q
    rw [cc.1] at q
    have q := List.all_eq_true.mp (List.all_eq_true.mp q u i.2.1) d i.2.2
    rw [sh] at q
    have q : fitsI w z r [.t t, .t u, .i d] = true := q
    rw [f] at q
    cases q
end
/-- the zone of a kind -/
def zoneK2 (kind : Str) : Zone := (0, [(0, if decide (kind = "skips") = true then 2 else -2)])
theorem goodZ_skips : GoodZ "skips" gapZ := ⟨by decide +kernel, by decide +kernel, by decide⟩
theorem goodZ_repeats : GoodZ "repeats" foldZ := ⟨by decide +kernel, by decide +kernel, by decide⟩
theorem holds_of2 {w : Way} {z : Zone} {kind : Str} {r : Rule} (hg : GoodZ kind z) (h : holdsB w kind r = true) : Holds w z r := by
  have hz := OkZ.of hg.ok
  unfold holdsB at h
  simp only [Bool.or_false, Bool.and_eq_true, Bool.or_eq_true] at h
  obtain ⟨h1, h2⟩ := h
  refine ⟨h1.imp id fun q => noGap_of hz hg.kind ?_, h2.imp id fun q => noFold_of hz hg.kind ?_⟩
  · rcases q with q | q
    · exact .inl (of_decide_eq_true q).symm
    · exact .inr (of_decide_eq_true q).symm
  · rcases q with q | q
    · exact .inl (of_decide_eq_true q).symm
    · exact .inr (of_decide_eq_true q).symm
def fin (w : Way) (z : Zone) (r : Rule) : Bool := if isRd r = true then goodX w z r else (tms w z).all (goodT w z r)
theorem fin_true {w : Way} {z : Zone} {kind : Str} {r : Rule} (hg : GoodZ kind z) (h : holdsB w kind r = true) : fin w z r = true := by
  have hz := OkZ.of hg.ok
  have H := holds_of2 hg h
  unfold fin
  by_cases c : isRd r = true
  · rw [if_pos c]
    exact goodX_all hz H c
  · rw [if_neg c]
    exact List.all_eq_true.mpr fun t ht => good_all hz H ht
theorem fin_is {w : Way} {kind : Str} {r : Rule} (h : kind = "skips" ∨ kind = "repeats") : fin w (zoneK2 kind) r = holdsB w kind r := by
  have bad : ∀ z : Zone, (if isRd r = true then goodX w z r = false else (tms w z).all (goodT w z r) = false) → fin w z r = false := by
    intro z q
    unfold fin
    by_cases c : isRd r = true
    · rw [if_pos c] at q ⊢
      exact q
    · rw [if_neg c] at q ⊢
      exact q
  rcases h with rfl | rfl
  · have ez : zoneK2 "skips" = gapZ := by decide +kernel
    rw [ez]
    cases hb : holdsB w "skips" r with
    | true => exact fin_true goodZ_skips hb
    | false =>
      have m1 : (met w r).1 = false := by
        cases hm : (met w r).1 with
        | false => rfl
        | true =>
          unfold holdsB at hb
          rw [hm, show decide (("skips" : Str) = "skips") = true from by decide +kernel] at hb
          simp at hb
      obtain ⟨po, f⟩ := gap_breaks m1
      have i := List.all_eq_true.mp (List.all_eq_true.mp gap_in w (way_mem w)) r (allR_mem r)
      rw [m1, Bool.false_or] at i
      exact bad _ (bad_T po f i)
  · have ez : zoneK2 "repeats" = foldZ := by decide +kernel
    rw [ez]
    cases hb : holdsB w "repeats" r with
    | true => exact fin_true goodZ_repeats hb
    | false =>
      have m1 : (met w r).2 = false := by
        cases hm : (met w r).2 with
        | false => rfl
        | true =>
          unfold holdsB at hb
          rw [hm, show decide (("repeats" : Str) = "repeats") = true from by decide +kernel] at hb
          simp at hb
      obtain ⟨po, f⟩ := fold_breaks m1
      have i := List.all_eq_true.mp (List.all_eq_true.mp fold_in w (way_mem w)) r (allR_mem r)
      rw [m1, Bool.false_or] at i
      exact bad _ (bad_T po f i)

local macro_rules | `(tactic| walk_at "lt") => `(tactic| first
  | with_reducible exact evL_nil
  | with_reducible exact evI_lit
  | with_reducible exact evI_neg
  | ((with_reducible refine evL_cons ?_ ?_) <;> walk_at "lt")
  | ((with_reducible refine evT_t ?_ ?_) <;> walk_at "lt")
  | ((with_reducible refine evT_i ?_) <;> walk_at "lt"))
theorem argsK {K : PySem.W.Frag} {H : Hp} {a : Addr} {xs : List V} {its : List It} (q : ∀ H : Hp, SqT K H a xs) (p : Paired (ItV K H) xs its) : ArgsV K H (.ref a) its := ⟨a, xs, rfl, q H, p⟩
theorem itK {K : PySem.W.Frag} {H : Hp} {a : Addr} {x y : Int} (q : ∀ H : Hp, SqT K H a [.int x, .int y]) : ItV K H (.ref a) (.t (x, y)) := ⟨a, rfl, q H⟩
theorem zoneK {K : PySem.W.Frag} {H : Hp} {a b c : Addr} {o x y : Int} (q : ∀ H : Hp, SqT K H a [.int o, .ref b]) (q2 : ∀ H : Hp, SqT K H b [.ref c]) (q3 : ∀ H : Hp, SqT K H c [.int x, .int y]) : ZV K H (.ref a) (o, [(x, y)]) :=
  ⟨a, _, rfl, q H, b, _, rfl, q2 H, .cons ⟨c, rfl, q3 H⟩ .nil⟩
section
variable {P : Program} {w : World} {K : PySem.W.Frag} {mg : Str → Option Value} {base : Heap}
theorem ok_arguments_in_gap (T : Txt w K mg) : FnOk P w K mg base CX0 1 T.f_arguments_in_gap.f T.f_arguments_in_gap.fd ["library", "rule"] (sp_arguments_in_gap K) := by
  refine T.f_arguments_in_gap.F.ok sc_arguments_in_gap (fun vs H Q E h => ?_) (fun cdv A outer s H vs Q E hr h => ?_)
  · obtain ⟨wv, w, r, rfl, _⟩ := h
    rfl
  obtain ⟨wv, y, r, rfl, ⟨a, rfl, hw⟩, hm, k⟩ := h
  refine ⟨(tSeq (tIfS (tTest (tOp (rInKD K w) (tVar 1) (tC (.ref T.a_IN_GAP)))) (tRet (tOp (rIxD K w) (tC (.ref T.a_IN_GAP)) (tVar 1))) tNext) (tSeq (tPar 2 3 (tCons (tOp (rIxT K) (tVar 0) (tC (.int 0))) (tCons (tOp (rIxT K) (tVar 0) (tC (.int 2))) tNil))) (tMatch (tVar 1) [(["there and back"], (tRet (tIf (tTest (tOp rEq (tVar 2) (tC (.str "wall")))) (tTup (tCons (tTup (tCons (tUn (rU fun i => .int (-i)) (tC (.int 1))) (tCons (tC (.int 0)) tNil))) (tCons (tC (.int 1)) tNil))) (tTup (tCons (tTup (tCons (tC (.int 0)) (tCons (tC (.int 0)) tNil))) (tCons (tC (.int 1)) tNil)))))), (["same clock"], (tRet (tIf (tTest (tOp rEq (tVar 2) (tC (.str "wall")))) (tTup (tCons (tTup (tCons (tUn (rU fun i => .int (-i)) (tC (.int 24))) (tCons (tC (.int 0)) tNil))) tNil)) (tTup (tCons (tTup (tCons (tUn (rU fun i => .int (-i)) (tC (.int 1))) (tCons (tC (.int 0)) tNil))) tNil))))), (["later"], (tRet (tIf (tTest (tOp rEq (tVar 3) (tC (.str "keep")))) (tTup (tCons (tTup (tCons (tC (.int 1)) (tCons (tC (.int 0)) tNil))) (tCons (tC (.int 1)) tNil))) (tTup (tCons (tTup (tCons (tUn (rU fun i => .int (-i)) (tC (.int 1))) (tCons (tC (.int 0)) tNil))) (tCons (tC (.int 1)) tNil)))))), (["order kept"], (tRet (tIf (tTest (tOp rEq (tVar 2) (tC (.str "wall")))) (tTup (tCons (tTup (tCons (tUn (rU fun i => .int (-i)) (tC (.int 2))) (tCons (tC (.int 0)) tNil))) (tCons (tTup (tCons (tUn (rU fun i => .int (-i)) (tC (.int 1))) (tCons (tC (.int 0)) tNil))) (tCons (tC (.int 3)) tNil)))) (tTup (tCons (tTup (tCons (tC (.int 0)) (tCons (tC (.int 0)) tNil))) (tCons (tTup (tCons (tC (.int 2)) (tCons (tC (.int 0)) tNil))) (tCons (tC (.int 1)) tNil))))))), (["equal sums"], (tRet (tIf (tTest (tOp rEq (tVar 3) (tC (.str "keep")))) (tTup (tCons (tTup (tCons (tC (.int 0)) (tCons (tC (.int 0)) tNil))) (tCons (tTup (tCons (tC (.int 2)) (tCons (tC (.int 0)) tNil))) (tCons (tC (.int 2)) tNil)))) (tTup (tCons (tTup (tCons (tUn (rU fun i => .int (-i)) (tC (.int 1))) (tCons (tC (.int 0)) tNil))) (tCons (tTup (tCons (tUn (rU fun i => .int (-i)) (tC (.int 1))) (tCons (tC (.int 0)) tNil))) (tCons (tC (.int 1)) tNil)))))))]))),
    PSs.nox (pss_cons (ps_if (pt_cmpR op_inKD (pv 1) (pe_glob (by rfl) T.c_IN_GAP rfl) (by rfl)) (pss_one (ps_ret (pe_ix ix_kdict (pe_glob (by rfl) T.c_IN_GAP rfl) (pv 1) (fun _ _ => rfl)))) pss_nil) (pss_cons (ps_par (by rfl) sc_arguments_in_gap.nd rfl rfl (by decide) rfl rfl (pa_cons (pe_ix ix_tup (pv 0) pe_int (fun _ _ => rfl)) (pa_cons (pe_ix ix_tup (pv 0) pe_int (fun _ _ => rfl)) pa_nil)) (by rfl)) (pss_one (ps_match (pv 1) (pcs_cons pat_str (pss_one (ps_ret (pe_ifExp (pt_cmpR op_eq (pv 2) pe_str (nomark _)) (pe_tup (pa_cons (pe_tup (pa_cons (pe_un un_neg pe_int) (pa_cons pe_int pa_nil))) (pa_cons pe_int pa_nil))) (pe_tup (pa_cons (pe_tup (pa_cons pe_int (pa_cons pe_int pa_nil))) (pa_cons pe_int pa_nil)))))) (pcs_cons pat_str (pss_one (ps_ret (pe_ifExp (pt_cmpR op_eq (pv 2) pe_str (nomark _)) (pe_tup (pa_cons (pe_tup (pa_cons (pe_un un_neg pe_int) (pa_cons pe_int pa_nil))) pa_nil)) (pe_tup (pa_cons (pe_tup (pa_cons (pe_un un_neg pe_int) (pa_cons pe_int pa_nil))) pa_nil))))) (pcs_cons pat_str (pss_one (ps_ret (pe_ifExp (pt_cmpR op_eq (pv 3) pe_str (nomark _)) (pe_tup (pa_cons (pe_tup (pa_cons pe_int (pa_cons pe_int pa_nil))) (pa_cons pe_int pa_nil))) (pe_tup (pa_cons (pe_tup (pa_cons (pe_un un_neg pe_int) (pa_cons pe_int pa_nil))) (pa_cons pe_int pa_nil)))))) (pcs_cons pat_str (pss_one (ps_ret (pe_ifExp (pt_cmpR op_eq (pv 2) pe_str (nomark _)) (pe_tup (pa_cons (pe_tup (pa_cons (pe_un un_neg pe_int) (pa_cons pe_int pa_nil))) (pa_cons (pe_tup (pa_cons (pe_un un_neg pe_int) (pa_cons pe_int pa_nil))) (pa_cons pe_int pa_nil)))) (pe_tup (pa_cons (pe_tup (pa_cons pe_int (pa_cons pe_int pa_nil))) (pa_cons (pe_tup (pa_cons pe_int (pa_cons pe_int pa_nil))) (pa_cons pe_int pa_nil))))))) (pcs_cons pat_str (pss_one (ps_ret (pe_ifExp (pt_cmpR op_eq (pv 3) pe_str (nomark _)) (pe_tup (pa_cons (pe_tup (pa_cons pe_int (pa_cons pe_int pa_nil))) (pa_cons (pe_tup (pa_cons pe_int (pa_cons pe_int pa_nil))) (pa_cons pe_int pa_nil)))) (pe_tup (pa_cons (pe_tup (pa_cons (pe_un un_neg pe_int) (pa_cons pe_int pa_nil))) (pa_cons (pe_tup (pa_cons (pe_un un_neg pe_int) (pa_cons pe_int pa_nil))) (pa_cons pe_int pa_nil))))))) pcs_nil))))))))), ?_⟩
  walk_at "qq"
  have e0 := Evl.Ex.refl H
  cases r
  case fromU => cases hm
  case eqOne => cases hm
  case toU => exact g_inKDy T.t_IN_GAP T.k_IN_GAP_0 (by walk_at "qq"; exact g_ixD T.k_IN_GAP_0 (k _ _ e0 (argsK T.q_IN_GAP_0 (.cons (itK T.q_IN_GAP_0_0) .nil))))
  case every => exact g_inKDy T.t_IN_GAP T.k_IN_GAP_1 (by walk_at "qq"; exact g_ixD T.k_IN_GAP_1 (k _ _ e0 (argsK T.q_IN_GAP_1 (.cons rfl .nil))))
  case someR => exact g_inKDy T.t_IN_GAP T.k_IN_GAP_2 (by walk_at "qq"; exact g_ixD T.k_IN_GAP_2 (k _ _ e0 (argsK T.q_IN_GAP_2 (.cons rfl .nil))))
  case sumD => exact g_inKDy T.t_IN_GAP T.k_IN_GAP_3 (by walk_at "qq"; exact g_ixD T.k_IN_GAP_3 (k _ _ e0 (argsK T.q_IN_GAP_3 (.cons (itK T.q_IN_GAP_3_0) (.cons rfl (.cons rfl .nil))))))
  case elapsed => exact g_inKDy T.t_IN_GAP T.k_IN_GAP_4 (by walk_at "qq"; exact g_ixD T.k_IN_GAP_4 (k _ _ e0 (argsK T.q_IN_GAP_4 (.cons (itK T.q_IN_GAP_4_0) (.cons rfl .nil)))))
  case told => exact g_inKDy T.t_IN_GAP T.k_IN_GAP_5 (by walk_at "qq"; exact g_ixD T.k_IN_GAP_5 (k _ _ e0 (argsK T.q_IN_GAP_5 (.cons (itK T.q_IN_GAP_5_0) (.cons rfl .nil)))))
  case diff => exact g_inKDy T.t_IN_GAP T.k_IN_GAP_6 (by walk_at "qq"; exact g_ixD T.k_IN_GAP_6 (k _ _ e0 (argsK T.q_IN_GAP_6 (.cons (itK T.q_IN_GAP_6_0) (.cons (itK T.q_IN_GAP_6_1) .nil)))))
  case ordDiff => exact g_inKDy T.t_IN_GAP T.k_IN_GAP_7 (by walk_at "qq"; exact g_ixD T.k_IN_GAP_7 (k _ _ e0 (argsK T.q_IN_GAP_7 (.cons (itK T.q_IN_GAP_7_0) (.cons (itK T.q_IN_GAP_7_1) .nil)))))
  case oneEq => exact g_inKDy T.t_IN_GAP T.k_IN_GAP_8 (by walk_at "qq"; exact g_ixD T.k_IN_GAP_8 (k _ _ e0 (argsK T.q_IN_GAP_8 (.cons (itK T.q_IN_GAP_8_0) (.cons (itK T.q_IN_GAP_8_1) .nil)))))
  case oneOne => exact g_inKDy T.t_IN_GAP T.k_IN_GAP_9 (by walk_at "qq"; exact g_ixD T.k_IN_GAP_9 (k _ _ e0 (argsK T.q_IN_GAP_9 (.cons (itK T.q_IN_GAP_9_0) (.cons (itK T.q_IN_GAP_9_1) .nil)))))
  case ordInst => exact g_inKDy T.t_IN_GAP T.k_IN_GAP_10 (by walk_at "qq"; exact g_ixD T.k_IN_GAP_10 (k _ _ e0 (argsK T.q_IN_GAP_10 (.cons (itK T.q_IN_GAP_10_0) (.cons (itK T.q_IN_GAP_10_1) .nil)))))
  case there =>
    refine g_inKDn T.t_IN_GAP T.n_IN_GAP_1 ?_
    walk_at "qq"
    unfold gapArgs at k
    rw [sum_wall]
    cases hs : y.ws with
    | true =>
      simp only [hs, if_true] at k
      refine if_tt (g_args (by walk_at "lt") (by decide) k)
    | false =>
      simp only [hs, Bool.false_eq_true, if_false] at k
      refine if_ff (g_args (by walk_at "lt") (by decide) k)
  case same =>
    refine g_inKDn T.t_IN_GAP T.n_IN_GAP_2 ?_
    walk_at "qq"
    unfold gapArgs at k
    rw [sum_wall]
    cases hs : y.ws with
    | true =>
      simp only [hs, if_true] at k
      refine if_tt (g_args (by walk_at "lt") (by decide) k)
    | false =>
      simp only [hs, Bool.false_eq_true, if_false] at k
      refine if_ff (g_args (by walk_at "lt") (by decide) k)
  case later =>
    refine g_inKDn T.t_IN_GAP T.n_IN_GAP_3 ?_
    walk_at "qq"
    unfold gapArgs at k
    rw [gap_keep]
    refine if_d (fun c => ?_) (fun c => ?_)
    · simp only [if_pos c] at k
      exact g_args (by walk_at "lt") (by decide) k
    · simp only [if_neg c] at k
      exact g_args (by walk_at "lt") (by decide) k
  case kept =>
    refine g_inKDn T.t_IN_GAP T.n_IN_GAP_5 ?_
    walk_at "qq"
    unfold gapArgs at k
    rw [sum_wall]
    cases hs : y.ws with
    | true =>
      simp only [hs, if_true] at k
      refine if_tt (g_args (by walk_at "lt") (by decide) k)
    | false =>
      simp only [hs, Bool.false_eq_true, if_false] at k
      refine if_ff (g_args (by walk_at "lt") (by decide) k)
  case eqSums =>
    refine g_inKDn T.t_IN_GAP T.n_IN_GAP_6 ?_
    walk_at "qq"
    unfold gapArgs at k
    rw [gap_keep]
    refine if_d (fun c => ?_) (fun c => ?_)
    · simp only [if_pos c] at k
      exact g_args (by walk_at "lt") (by decide) k
    · simp only [if_neg c] at k
      exact g_args (by walk_at "lt") (by decide) k
theorem ok_arguments_in_fold_for_wall_sums (T : Txt w K mg) : FnOk P w K mg base CX0 1 T.f_arguments_in_fold_for_wall_sums.f T.f_arguments_in_fold_for_wall_sums.fd ["fold", "rule"] (sp_arguments_in_fold_for_wall_sums K) := by
  refine T.f_arguments_in_fold_for_wall_sums.F.ok sc_arguments_in_fold_for_wall_sums (fun vs H Q E h => ?_) (fun cdv A outer s H vs Q E hr h => ?_)
  · obtain ⟨w, r, rfl, _⟩ := h
    rfl
  obtain ⟨y, r, rfl, hs, hr', hl, k⟩ := h
  refine ⟨(tMatch (tVar 1) [(["there and back"], (tRet (tIf (tTest (tOp rEq (tVar 0) (tC (.str "both")))) (tTup (tCons (tTup (tCons (tUn (rU fun i => .int (-i)) (tC (.int 1))) (tCons (tC (.int 1)) tNil))) (tCons (tC (.int 1)) tNil))) (tTup (tCons (tTup (tCons (tC (.int 0)) (tCons (tC (.int 0)) tNil))) (tCons (tUn (rU fun i => .int (-i)) (tC (.int 1))) tNil)))))), (["sum of durations"], (tRet (tTup (tCons (tTup (tCons (tC (.int 0)) (tCons (tC (.int 0)) tNil))) (tCons (tUn (rU fun i => .int (-i)) (tC (.int 1))) (tCons (tC (.int 1)) tNil)))))), (["elapsed time"], (tRet (tTup (tCons (tTup (tCons (tUn (rU fun i => .int (-i)) (tC (.int 3))) (tCons (tC (.int 0)) tNil))) (tCons (tC (.int 3)) tNil))))), (["same clock"], (tRet (tTup (tCons (tTup (tCons (tUn (rU fun i => .int (-i)) (tC (.int 25))) (tCons (tC (.int 0)) tNil))) tNil)))), (["later"], (tRet (tTup (tCons (tTup (tCons (tUn (rU fun i => .int (-i)) (tC (.int 2))) (tCons (tC (.int 1)) tNil))) (tCons (tC (.int 1)) tNil))))), (["order kept"], (tRet (tIf (tTest (tOp rEq (tVar 0) (tC (.str "refuse")))) (tTup (tCons (tTup (tCons (tUn (rU fun i => .int (-i)) (tC (.int 4))) (tCons (tC (.int 0)) tNil))) (tCons (tTup (tCons (tUn (rU fun i => .int (-i)) (tC (.int 3))) (tCons (tC (.int 0)) tNil))) (tCons (tC (.int 2)) tNil)))) (tTup (tCons (tTup (tCons (tUn (rU fun i => .int (-i)) (tC (.int 1))) (tCons (tC (.int 0)) tNil))) (tCons (tTup (tCons (tUn (rU fun i => .int (-i)) (tC (.int 2))) (tCons (tC (.int 1)) tNil))) (tCons (tC (.int 1)) tNil)))))))]),
    PSs.nox (pss_one (ps_match (pv 1) (pcs_cons pat_str (pss_one (ps_ret (pe_ifExp (pt_cmpR op_eq (pv 0) pe_str (nomark _)) (pe_tup (pa_cons (pe_tup (pa_cons (pe_un un_neg pe_int) (pa_cons pe_int pa_nil))) (pa_cons pe_int pa_nil))) (pe_tup (pa_cons (pe_tup (pa_cons pe_int (pa_cons pe_int pa_nil))) (pa_cons (pe_un un_neg pe_int) pa_nil)))))) (pcs_cons pat_str (pss_one (ps_ret (pe_tup (pa_cons (pe_tup (pa_cons pe_int (pa_cons pe_int pa_nil))) (pa_cons (pe_un un_neg pe_int) (pa_cons pe_int pa_nil)))))) (pcs_cons pat_str (pss_one (ps_ret (pe_tup (pa_cons (pe_tup (pa_cons (pe_un un_neg pe_int) (pa_cons pe_int pa_nil))) (pa_cons pe_int pa_nil))))) (pcs_cons pat_str (pss_one (ps_ret (pe_tup (pa_cons (pe_tup (pa_cons (pe_un un_neg pe_int) (pa_cons pe_int pa_nil))) pa_nil)))) (pcs_cons pat_str (pss_one (ps_ret (pe_tup (pa_cons (pe_tup (pa_cons (pe_un un_neg pe_int) (pa_cons pe_int pa_nil))) (pa_cons pe_int pa_nil))))) (pcs_cons pat_str (pss_one (ps_ret (pe_ifExp (pt_cmpR op_eq (pv 0) pe_str (nomark _)) (pe_tup (pa_cons (pe_tup (pa_cons (pe_un un_neg pe_int) (pa_cons pe_int pa_nil))) (pa_cons (pe_tup (pa_cons (pe_un un_neg pe_int) (pa_cons pe_int pa_nil))) (pa_cons pe_int pa_nil)))) (pe_tup (pa_cons (pe_tup (pa_cons (pe_un un_neg pe_int) (pa_cons pe_int pa_nil))) (pa_cons (pe_tup (pa_cons (pe_un un_neg pe_int) (pa_cons pe_int pa_nil))) (pa_cons pe_int pa_nil))))))) pcs_nil)))))))), ?_⟩
  walk_at "qq"
  unfold foldArgs at k
  simp only [hs, if_true] at k
  rcases hr' with rfl | rfl | rfl | rfl | rfl | rfl
  · walk_at "qq"
    rw [fold_both]
    refine if_d (fun c => ?_) (fun c => ?_)
    · simp only [if_pos c] at k
      exact g_args (by walk_at "lt") (by decide) k
    · simp only [if_neg c] at k
      exact g_args (by walk_at "lt") (by decide) k
  · walk_at "qq"
    dsimp only at k
    exact g_args (by walk_at "lt") (by decide) k
  · walk_at "qq"
    dsimp only at k
    exact g_args (by walk_at "lt") (by decide) k
  · walk_at "qq"
    dsimp only at k
    exact g_args (by walk_at "lt") (by decide) k
  · walk_at "qq"
    simp only [if_neg (hl rfl)] at k
    exact g_args (by walk_at "lt") (by decide) k
  · walk_at "qq"
    rw [fold_refuse]
    refine if_d (fun c => ?_) (fun c => ?_)
    · simp only [if_pos c] at k
      exact g_args (by walk_at "lt") (by decide) k
    · simp only [if_neg c] at k
      exact g_args (by walk_at "lt") (by decide) k
theorem ok_arguments_in_fold_for_elapsed_sums (T : Txt w K mg) : FnOk P w K mg base CX0 1 T.f_arguments_in_fold_for_elapsed_sums.f T.f_arguments_in_fold_for_elapsed_sums.fd ["fold", "rule"] (sp_arguments_in_fold_for_elapsed_sums K) := by
  refine T.f_arguments_in_fold_for_elapsed_sums.F.ok sc_arguments_in_fold_for_elapsed_sums (fun vs H Q E h => ?_) (fun cdv A outer s H vs Q E hr h => ?_)
  · obtain ⟨w, r, rfl, _⟩ := h
    rfl
  obtain ⟨y, r, rfl, hs, hr', hl, k⟩ := h
  refine ⟨(tMatch (tVar 1) [(["there and back", "elapsed time"], (tRet (tIf (tTest (tOp rEq (tVar 0) (tC (.str "first")))) (tTup (tCons (tTup (tCons (tUn (rU fun i => .int (-i)) (tC (.int 1))) (tCons (tC (.int 0)) tNil))) (tCons (tC (.int 1)) tNil))) (tTup (tCons (tTup (tCons (tC (.int 0)) (tCons (tC (.int 0)) tNil))) (tCons (tUn (rU fun i => .int (-i)) (tC (.int 4))) tNil)))))), (["sum of durations"], (tRet (tIf (tTest (tOp rEq (tVar 0) (tC (.str "first")))) (tTup (tCons (tTup (tCons (tUn (rU fun i => .int (-i)) (tC (.int 1))) (tCons (tC (.int 0)) tNil))) (tCons (tC (.int 1)) (tCons (tC (.int 3)) tNil)))) (tTup (tCons (tTup (tCons (tC (.int 0)) (tCons (tC (.int 0)) tNil))) (tCons (tUn (rU fun i => .int (-i)) (tC (.int 4))) (tCons (tC (.int 4)) tNil))))))), (["same clock"], (tRet (tTup (tCons (tTup (tCons (tUn (rU fun i => .int (-i)) (tC (.int 3))) (tCons (tC (.int 0)) tNil))) tNil)))), (["later"], (tRet (tTup (tCons (tTup (tCons (tUn (rU fun i => .int (-i)) (tC (.int 1))) (tCons (tC (.int 0)) tNil))) (tCons (tC (.int 1)) tNil))))), (["order kept"], (tRet (tTup (tCons (tTup (tCons (tUn (rU fun i => .int (-i)) (tC (.int 5))) (tCons (tC (.int 0)) tNil))) (tCons (tTup (tCons (tUn (rU fun i => .int (-i)) (tC (.int 4))) (tCons (tC (.int 0)) tNil))) (tCons (tC (.int 4)) tNil))))))]),
    PSs.nox (pss_one (ps_match (pv 1) (pcs_cons (pat_or (por_cons pat_str (por_cons pat_str por_nil))) (pss_one (ps_ret (pe_ifExp (pt_cmpR op_eq (pv 0) pe_str (nomark _)) (pe_tup (pa_cons (pe_tup (pa_cons (pe_un un_neg pe_int) (pa_cons pe_int pa_nil))) (pa_cons pe_int pa_nil))) (pe_tup (pa_cons (pe_tup (pa_cons pe_int (pa_cons pe_int pa_nil))) (pa_cons (pe_un un_neg pe_int) pa_nil)))))) (pcs_cons pat_str (pss_one (ps_ret (pe_ifExp (pt_cmpR op_eq (pv 0) pe_str (nomark _)) (pe_tup (pa_cons (pe_tup (pa_cons (pe_un un_neg pe_int) (pa_cons pe_int pa_nil))) (pa_cons pe_int (pa_cons pe_int pa_nil)))) (pe_tup (pa_cons (pe_tup (pa_cons pe_int (pa_cons pe_int pa_nil))) (pa_cons (pe_un un_neg pe_int) (pa_cons pe_int pa_nil))))))) (pcs_cons pat_str (pss_one (ps_ret (pe_tup (pa_cons (pe_tup (pa_cons (pe_un un_neg pe_int) (pa_cons pe_int pa_nil))) pa_nil)))) (pcs_cons pat_str (pss_one (ps_ret (pe_tup (pa_cons (pe_tup (pa_cons (pe_un un_neg pe_int) (pa_cons pe_int pa_nil))) (pa_cons pe_int pa_nil))))) (pcs_cons pat_str (pss_one (ps_ret (pe_tup (pa_cons (pe_tup (pa_cons (pe_un un_neg pe_int) (pa_cons pe_int pa_nil))) (pa_cons (pe_tup (pa_cons (pe_un un_neg pe_int) (pa_cons pe_int pa_nil))) (pa_cons pe_int pa_nil)))))) pcs_nil))))))), ?_⟩
  walk_at "qq"
  unfold foldArgs at k
  simp only [hs, Bool.false_eq_true, if_false] at k
  rcases hr' with rfl | rfl | rfl | rfl | rfl | rfl
  · walk_at "qq"
    rw [fold_first]
    refine if_d (fun c => ?_) (fun c => ?_)
    · simp only [if_pos c] at k
      exact g_args (by walk_at "lt") (by decide) k
    · simp only [if_neg c] at k
      exact g_args (by walk_at "lt") (by decide) k
  · walk_at "qq"
    rw [fold_first]
    refine if_d (fun c => ?_) (fun c => ?_)
    · simp only [if_pos c] at k
      exact g_args (by walk_at "lt") (by decide) k
    · simp only [if_neg c] at k
      exact g_args (by walk_at "lt") (by decide) k
  · walk_at "qq"
    rw [fold_first]
    refine if_d (fun c => ?_) (fun c => ?_)
    · simp only [if_pos c] at k
      exact g_args (by walk_at "lt") (by decide) k
    · simp only [if_neg c] at k
      exact g_args (by walk_at "lt") (by decide) k
  · walk_at "qq"
    dsimp only at k
    exact g_args (by walk_at "lt") (by decide) k
  · walk_at "qq"
    simp only [if_neg (hl rfl)] at k
    exact g_args (by walk_at "lt") (by decide) k
  · walk_at "qq"
    dsimp only at k
    exact g_args (by walk_at "lt") (by decide) k
theorem ok_arguments_in_fold (T : Txt w K mg) : FnOk P w K mg base CX0 2 T.f_arguments_in_fold.f T.f_arguments_in_fold.fd ["library", "rule"] (sp_arguments_in_fold K) := by
  refine T.f_arguments_in_fold.F.ok sc_arguments_in_fold (fun vs H Q E h => ?_) (fun cdv A outer s H vs Q E hr h => ?_)
  · obtain ⟨wv, w, r, rfl, _⟩ := h
    rfl
  obtain ⟨wv, y, r, rfl, ⟨a, rfl, hw⟩, hm, k⟩ := h
  refine ⟨(tSeq (tIfS (tTest (tOp (rInKD K w) (tVar 1) (tC (.ref T.a_IN_FOLD)))) (tRet (tOp (rIxD K w) (tC (.ref T.a_IN_FOLD)) (tVar 1))) tNext) (tSeq (tPar 2 3 (tCons (tOp (rIxT K) (tVar 0) (tC (.int 0))) (tCons (tOp (rIxT K) (tVar 0) (tC (.int 3))) tNil))) (tSeq (tIfS (tTest (tOp rEq (tVar 1) (tC (.str "from universal and back")))) (tRet (tIf (tTest (tOp rEq (tVar 3) (tC (.str "second")))) (tTup (tCons (tUn (rU fun i => .int (-i)) (tC (.int 2))) tNil)) (tTup (tCons (tC (.int 0)) tNil)))) tNext) (tSeq (tIfS (tTest (tOp rEq (tVar 1) (tC (.str "equal sums")))) (tRet (tIf (tTest (tOp rEq (tVar 3) (tC (.str "refuse")))) (tTup (tCons (tTup (tCons (tUn (rU fun i => .int (-i)) (tC (.int 3))) (tCons (tC (.int 0)) tNil))) (tCons (tTup (tCons (tUn (rU fun i => .int (-i)) (tC (.int 3))) (tCons (tC (.int 0)) tNil))) (tCons (tC (.int 2)) tNil)))) (tTup (tCons (tTup (tCons (tUn (rU fun i => .int (-i)) (tC (.int 1))) (tCons (tC (.int 0)) tNil))) (tCons (tTup (tCons (tUn (rU fun i => .int (-i)) (tC (.int 1))) (tCons (tC (.int 1)) tNil))) (tCons (tC (.int 1)) tNil)))))) tNext) (tSeq (tIfS (tAnd (tTest (tOp rEq (tVar 1) (tC (.str "later")))) (tTest (tOp rEq (tVar 3) (tC (.str "refuse"))))) (tRet (tTup (tCons (tTup (tCons (tUn (rU fun i => .int (-i)) (tC (.int 3))) (tCons (tC (.int 0)) tNil))) (tCons (tC (.int 2)) tNil)))) tNext) (tSeq (tIfS (tTest (tOp rEq (tVar 2) (tC (.str "wall")))) (tRet (tCall (sp_arguments_in_fold_for_wall_sums K) [] E0 (tCons (tVar 3) (tCons (tVar 1) tNil)))) tNext) (tRet (tCall (sp_arguments_in_fold_for_elapsed_sums K) [] E0 (tCons (tVar 3) (tCons (tVar 1) tNil)))))))))),
    PSs.nox (pss_cons (ps_if (pt_cmpR op_inKD (pv 1) (pe_glob (by rfl) T.c_IN_FOLD rfl) (by rfl)) (pss_one (ps_ret (pe_ix ix_kdict (pe_glob (by rfl) T.c_IN_FOLD rfl) (pv 1) (fun _ _ => rfl)))) pss_nil) (pss_cons (ps_par (by rfl) sc_arguments_in_fold.nd rfl rfl (by decide) rfl rfl (pa_cons (pe_ix ix_tup (pv 0) pe_int (fun _ _ => rfl)) (pa_cons (pe_ix ix_tup (pv 0) pe_int (fun _ _ => rfl)) pa_nil)) (by rfl)) (pss_cons (ps_if (pt_cmpR op_eq (pv 1) pe_str (nomark _)) (pss_one (ps_ret (pe_ifExp (pt_cmpR op_eq (pv 3) pe_str (nomark _)) (pe_tup (pa_cons (pe_un un_neg pe_int) pa_nil)) (pe_tup (pa_cons pe_int pa_nil))))) pss_nil) (pss_cons (ps_if (pt_cmpR op_eq (pv 1) pe_str (nomark _)) (pss_one (ps_ret (pe_ifExp (pt_cmpR op_eq (pv 3) pe_str (nomark _)) (pe_tup (pa_cons (pe_tup (pa_cons (pe_un un_neg pe_int) (pa_cons pe_int pa_nil))) (pa_cons (pe_tup (pa_cons (pe_un un_neg pe_int) (pa_cons pe_int pa_nil))) (pa_cons pe_int pa_nil)))) (pe_tup (pa_cons (pe_tup (pa_cons (pe_un un_neg pe_int) (pa_cons pe_int pa_nil))) (pa_cons (pe_tup (pa_cons (pe_un un_neg pe_int) (pa_cons pe_int pa_nil))) (pa_cons pe_int pa_nil))))))) pss_nil) (pss_cons (ps_if (PW.pt (pw_and (pt_cmpR op_eq (pv 1) pe_str (nomark _)) (pw_and1 (pt_cmpR op_eq (pv 3) pe_str (nomark _))))) (pss_one (ps_ret (pe_tup (pa_cons (pe_tup (pa_cons (pe_un un_neg pe_int) (pa_cons pe_int pa_nil))) (pa_cons pe_int pa_nil))))) pss_nil) (pss_cons (ps_if (pt_cmpR op_eq (pv 2) pe_str (nomark _)) (pss_one (ps_ret (pe_call (ok_arguments_in_fold_for_wall_sums T) (hr.mono (by decide)) (by rfl) T.f_arguments_in_fold_for_wall_sums.g T.f_arguments_in_fold_for_wall_sums.F.kp T.f_arguments_in_fold_for_wall_sums.b .nil pass0 (pa_cons (pv 3) (pa_cons (pv 1) pa_nil))))) pss_nil) (pss_one (ps_ret (pe_call (ok_arguments_in_fold_for_elapsed_sums T) (hr.mono (by decide)) (by rfl) T.f_arguments_in_fold_for_elapsed_sums.g T.f_arguments_in_fold_for_elapsed_sums.F.kp T.f_arguments_in_fold_for_elapsed_sums.b .nil pass0 (pa_cons (pv 3) (pa_cons (pv 1) pa_nil))))))))))), ?_⟩
  walk_at "qq"
  have e0 := Evl.Ex.refl H
  cases r
  case toU => cases hm
  case oneEq => cases hm
  case oneOne => cases hm
  case every => exact g_inKDy T.t_IN_FOLD T.k_IN_FOLD_0 (by walk_at "qq"; exact g_ixD T.k_IN_FOLD_0 (k _ _ e0 (argsK T.q_IN_FOLD_0 (.cons rfl .nil))))
  case someR => exact g_inKDy T.t_IN_FOLD T.k_IN_FOLD_1 (by walk_at "qq"; exact g_ixD T.k_IN_FOLD_1 (k _ _ e0 (argsK T.q_IN_FOLD_1 (.cons rfl .nil))))
  case told => exact g_inKDy T.t_IN_FOLD T.k_IN_FOLD_2 (by walk_at "qq"; exact g_ixD T.k_IN_FOLD_2 (k _ _ e0 (argsK T.q_IN_FOLD_2 (.cons (itK T.q_IN_FOLD_2_0) (.cons rfl .nil)))))
  case diff => exact g_inKDy T.t_IN_FOLD T.k_IN_FOLD_3 (by walk_at "qq"; exact g_ixD T.k_IN_FOLD_3 (k _ _ e0 (argsK T.q_IN_FOLD_3 (.cons (itK T.q_IN_FOLD_3_0) (.cons (itK T.q_IN_FOLD_3_1) .nil)))))
  case ordDiff => exact g_inKDy T.t_IN_FOLD T.k_IN_FOLD_4 (by walk_at "qq"; exact g_ixD T.k_IN_FOLD_4 (k _ _ e0 (argsK T.q_IN_FOLD_4 (.cons (itK T.q_IN_FOLD_4_0) (.cons (itK T.q_IN_FOLD_4_1) .nil)))))
  case eqOne => exact g_inKDy T.t_IN_FOLD T.k_IN_FOLD_5 (by walk_at "qq"; exact g_ixD T.k_IN_FOLD_5 (k _ _ e0 (argsK T.q_IN_FOLD_5 (.cons (itK T.q_IN_FOLD_5_0) (.cons (itK T.q_IN_FOLD_5_1) .nil)))))
  case ordInst => exact g_inKDy T.t_IN_FOLD T.k_IN_FOLD_6 (by walk_at "qq"; exact g_ixD T.k_IN_FOLD_6 (k _ _ e0 (argsK T.q_IN_FOLD_6 (.cons (itK T.q_IN_FOLD_6_0) (.cons (itK T.q_IN_FOLD_6_1) .nil)))))
  case fromU =>
    refine g_inKDn T.t_IN_FOLD T.n_IN_FOLD_0 ?_
    walk_at "qq"
    unfold foldArgs at k
    rw [fold_second]
    refine if_d (fun c => ?_) (fun c => ?_)
    · simp only [if_pos c] at k
      exact g_args (by walk_at "lt") (by decide) k
    · simp only [if_neg c] at k
      exact g_args (by walk_at "lt") (by decide) k
  case eqSums =>
    refine g_inKDn T.t_IN_FOLD T.n_IN_FOLD_10 ?_
    walk_at "qq"
    unfold foldArgs at k
    rw [fold_refuse]
    refine if_d (fun c => ?_) (fun c => ?_)
    · simp only [if_pos c] at k
      exact g_args (by walk_at "lt") (by decide) k
    · simp only [if_neg c] at k
      exact g_args (by walk_at "lt") (by decide) k
  case there =>
    refine g_inKDn T.t_IN_FOLD T.n_IN_FOLD_2 ?_
    walk_at "qq"
    rw [sum_wall]
    cases hs : y.ws with
    | true =>
      walk_at "qq"
      exact ⟨y, .there, rfl, hs, (.inl rfl), (fun h => by cases h), k⟩
    | false =>
      walk_at "qq"
      exact ⟨y, .there, rfl, hs, (.inl rfl), (fun h => by cases h), k⟩
  case sumD =>
    refine g_inKDn T.t_IN_FOLD T.n_IN_FOLD_3 ?_
    walk_at "qq"
    rw [sum_wall]
    cases hs : y.ws with
    | true =>
      walk_at "qq"
      exact ⟨y, .sumD, rfl, hs, (.inr (.inl rfl)), (fun h => by cases h), k⟩
    | false =>
      walk_at "qq"
      exact ⟨y, .sumD, rfl, hs, (.inr (.inl rfl)), (fun h => by cases h), k⟩
  case elapsed =>
    refine g_inKDn T.t_IN_FOLD T.n_IN_FOLD_4 ?_
    walk_at "qq"
    rw [sum_wall]
    cases hs : y.ws with
    | true =>
      walk_at "qq"
      exact ⟨y, .elapsed, rfl, hs, (.inr (.inr (.inl rfl))), (fun h => by cases h), k⟩
    | false =>
      walk_at "qq"
      exact ⟨y, .elapsed, rfl, hs, (.inr (.inr (.inl rfl))), (fun h => by cases h), k⟩
  case same =>
    refine g_inKDn T.t_IN_FOLD T.n_IN_FOLD_5 ?_
    walk_at "qq"
    rw [sum_wall]
    cases hs : y.ws with
    | true =>
      walk_at "qq"
      exact ⟨y, .same, rfl, hs, (.inr (.inr (.inr (.inl rfl)))), (fun h => by cases h), k⟩
    | false =>
      walk_at "qq"
      exact ⟨y, .same, rfl, hs, (.inr (.inr (.inr (.inl rfl)))), (fun h => by cases h), k⟩
  case kept =>
    refine g_inKDn T.t_IN_FOLD T.n_IN_FOLD_9 ?_
    walk_at "qq"
    rw [sum_wall]
    cases hs : y.ws with
    | true =>
      walk_at "qq"
      exact ⟨y, .kept, rfl, hs, (.inr (.inr (.inr (.inr (.inr rfl))))), (fun h => by cases h), k⟩
    | false =>
      walk_at "qq"
      exact ⟨y, .kept, rfl, hs, (.inr (.inr (.inr (.inr (.inr rfl))))), (fun h => by cases h), k⟩
  case later =>
    refine g_inKDn T.t_IN_FOLD T.n_IN_FOLD_6 ?_
    walk_at "qq"
    rw [fold_refuse]
    refine if_d (fun c => ?_) (fun c => ?_)
    · unfold foldArgs at k
      walk_at "mm"
      simp only [if_pos c] at k
      exact g_args (by walk_at "lt") (by decide) k
    · walk_at "qq"
      rw [sum_wall]
      cases hs : y.ws with
      | true =>
        walk_at "qq"
        exact ⟨y, .later, rfl, hs, (.inr (.inr (.inr (.inr (.inl rfl))))), fun _ => c, k⟩
      | false =>
        walk_at "qq"
        exact ⟨y, .later, rfl, hs, (.inr (.inr (.inr (.inr (.inl rfl))))), fun _ => c, k⟩
theorem ok_check_kind (T : Txt w K mg) : FnOk P w K mg base CX0 1 T.f_check_kind.f T.f_check_kind.fd ["value"] (sp_check_kind K) := by
  refine T.f_check_kind.F.ok sc_check_kind (fun vs H Q E h => ?_) (fun cdv A outer s H vs Q E hr h => ?_)
  · obtain ⟨kind, rfl, _⟩ := h
    rfl
  obtain ⟨kind, rfl, hk, k⟩ := h
  refine ⟨(tIfS (tTest (tOp (rIn K true) (tVar 0) (tC (.ref T.a_KINDS)))) tNever tNext),
    PSs.nox (pss_one (ps_if (pt_cmpR op_notIn_seq (pv 0) (pe_glob (by rfl) T.c_KINDS rfl) (by rfl)) (pss_one ps_never) pss_nil)), ?_⟩
  walk_at "qq"
  refine g_niTu (T.q_KINDS _) rfl rfl ?_
  walk_at "qq"
  refine if_f (by rcases hk with rfl | rfl | rfl | rfl <;> decide +kernel) ?_
  walk_at "qq"
  exact k
theorem inShapes (T : Txt w K mg) {H : Hp} {Q : VK} (r : Rule) (k : Q (.bl true) H) : rInKD K w (.str (ruleS r)) (.ref T.a_SHAPES) H Q := by
  cases r
  case fromU => exact g_inKDy T.t_SHAPES T.k_SHAPES_0 k
  case toU => exact g_inKDy T.t_SHAPES T.k_SHAPES_1 k
  case every => exact g_inKDy T.t_SHAPES T.k_SHAPES_2 k
  case someR => exact g_inKDy T.t_SHAPES T.k_SHAPES_3 k
  case there => exact g_inKDy T.t_SHAPES T.k_SHAPES_4 k
  case sumD => exact g_inKDy T.t_SHAPES T.k_SHAPES_5 k
  case elapsed => exact g_inKDy T.t_SHAPES T.k_SHAPES_6 k
  case same => exact g_inKDy T.t_SHAPES T.k_SHAPES_7 k
  case later => exact g_inKDy T.t_SHAPES T.k_SHAPES_8 k
  case told => exact g_inKDy T.t_SHAPES T.k_SHAPES_9 k
  case diff => exact g_inKDy T.t_SHAPES T.k_SHAPES_10 k
  case ordDiff => exact g_inKDy T.t_SHAPES T.k_SHAPES_11 k
  case eqOne => exact g_inKDy T.t_SHAPES T.k_SHAPES_12 k
  case oneEq => exact g_inKDy T.t_SHAPES T.k_SHAPES_13 k
  case oneOne => exact g_inKDy T.t_SHAPES T.k_SHAPES_14 k
  case ordInst => exact g_inKDy T.t_SHAPES T.k_SHAPES_15 k
  case kept => exact g_inKDy T.t_SHAPES T.k_SHAPES_16 k
  case eqSums => exact g_inKDy T.t_SHAPES T.k_SHAPES_17 k
theorem ok_is_rule (T : Txt w K mg) : FnOk P w K mg base CX0 1 T.f_is_rule.f T.f_is_rule.fd ["value"] (sp_is_rule K) := by
  refine T.f_is_rule.F.ok sc_is_rule (fun vs H Q E h => ?_) (fun cdv A outer s H vs Q E hr h => ?_)
  · obtain ⟨r, rfl, _⟩ := h
    rfl
  obtain ⟨r, rfl, k⟩ := h
  refine ⟨(tRet (tAndV (tCB (rIsi K) (tCons (tVar 0) (tCons (tC (.ty "str")) tNil))) (tOp (rInKD K w) (tVar 0) (tC (.ref T.a_SHAPES))))),
    PSs.nox (pss_one (ps_ret (pe_and (pe_callB call_isi (by rfl) T.z_isinstance (by decide +kernel) (pa_cons (pv 0) (pa_cons (pe_bltn (by rfl) T.z_str (by decide +kernel) rfl) pa_nil))) (pe_one (pe_cmpR op_inKD (pv 0) (pe_glob (by rfl) T.c_SHAPES rfl) (by rfl)))))), ?_⟩
  walk_at "qq"
  refine g_isi ty_str rfl ?_
  walk_at "qq"
  exact inShapes T r k
theorem ok_check_rule (T : Txt w K mg) : FnOk P w K mg base CX0 2 T.f_check_rule.f T.f_check_rule.fd ["value"] (sp_check_rule K) := by
  refine T.f_check_rule.F.ok sc_check_rule (fun vs H Q E h => ?_) (fun cdv A outer s H vs Q E hr h => ?_)
  · obtain ⟨r, rfl, _⟩ := h
    rfl
  obtain ⟨r, rfl, k⟩ := h
  refine ⟨(tIfS (tNot (tB (tCall (sp_is_rule K) [] E0 (tCons (tVar 0) tNil)))) tNever tNext),
    PSs.nox (pss_one (ps_if (pt_not (pt_val (pe_call (ok_is_rule T) (hr.mono (by decide)) (by rfl) T.f_is_rule.g T.f_is_rule.F.kp T.f_is_rule.b .nil pass0 (pa_cons (pv 0) pa_nil)))) (pss_one ps_never) pss_nil)), ?_⟩
  walk_at "qq"
  refine ⟨r, rfl, ?_⟩
  walk_at "qq"
  exact k
theorem ok_counterexample (T : Txt w K mg) : FnOk P w K mg base CX0 4 T.f_counterexample.f T.f_counterexample.fd ["library", "kind", "rule"] (sp_counterexample K) := by
  refine T.f_counterexample.F.ok sc_counterexample (fun vs H Q E h => ?_) (fun cdv A outer s H vs Q E hr h => ?_)
  · obtain ⟨wv, w, kind, r, rfl, _⟩ := h
    rfl
  obtain ⟨wv, y, kind, r, rfl, hw, hk, k⟩ := h
  refine ⟨(tSeq (tDrop (tCall (sp_check_library K) [] E0 (tCons (tVar 0) tNil))) (tSeq (tDrop (tCall (sp_check_kind K) [] E0 (tCons (tVar 1) tNil))) (tSeq (tDrop (tCall (sp_check_rule K) [] E0 (tCons (tVar 2) tNil))) (tSeq (tIfS (tAnd (tTest (tOp (rIn K false) (tVar 1) (tTup (tCons (tC (.str "skips")) (tCons (tC (.str "both")) tNil))))) (tNot (tB (tCall (sp_holds_over_gaps K) [] E0 (tCons (tVar 0) (tCons (tVar 2) tNil)))))) (tRet (tTup (tCons (tC (.ref T.a_GAP_ZONE)) (tCons (tCall (sp_arguments_in_gap K) [] E0 (tCons (tVar 0) (tCons (tVar 2) tNil))) tNil)))) tNext) (tSeq (tIfS (tAnd (tTest (tOp (rIn K false) (tVar 1) (tTup (tCons (tC (.str "repeats")) (tCons (tC (.str "both")) tNil))))) (tNot (tB (tCall (sp_holds_over_folds K) [] E0 (tCons (tVar 0) (tCons (tVar 2) tNil)))))) (tRet (tTup (tCons (tC (.ref T.a_FOLD_ZONE)) (tCons (tCall (sp_arguments_in_fold K) [] E0 (tCons (tVar 0) (tCons (tVar 2) tNil))) tNil)))) tNext) (tRet (tC .non))))))),
    PSs.nox (pss_cons (ps_expr (pe_call (ok_check_library T) (hr.mono (by decide)) (by rfl) T.f_check_library.g T.f_check_library.F.kp T.f_check_library.b .nil pass0 (pa_cons (pv 0) pa_nil))) (pss_cons (ps_expr (pe_call (ok_check_kind T) (hr.mono (by decide)) (by rfl) T.f_check_kind.g T.f_check_kind.F.kp T.f_check_kind.b .nil pass0 (pa_cons (pv 1) pa_nil))) (pss_cons (ps_expr (pe_call (ok_check_rule T) (hr.mono (by decide)) (by rfl) T.f_check_rule.g T.f_check_rule.F.kp T.f_check_rule.b .nil pass0 (pa_cons (pv 2) pa_nil))) (pss_cons (ps_if (PW.pt (pw_and (pt_cmpR op_in_seq (pv 1) (pe_tup (pa_cons pe_str (pa_cons pe_str pa_nil))) (by rfl)) (pw_and1 (pt_not (pt_val (pe_call (ok_holds_over_gaps T) (hr.mono (by decide)) (by rfl) T.f_holds_over_gaps.g T.f_holds_over_gaps.F.kp T.f_holds_over_gaps.b .nil pass0 (pa_cons (pv 0) (pa_cons (pv 2) pa_nil)))))))) (pss_one (ps_ret (pe_tup (pa_cons (pe_glob (by rfl) T.c_GAP_ZONE rfl) (pa_cons (pe_call (ok_arguments_in_gap T) (hr.mono (by decide)) (by rfl) T.f_arguments_in_gap.g T.f_arguments_in_gap.F.kp T.f_arguments_in_gap.b .nil pass0 (pa_cons (pv 0) (pa_cons (pv 2) pa_nil))) pa_nil))))) pss_nil) (pss_cons (ps_if (PW.pt (pw_and (pt_cmpR op_in_seq (pv 1) (pe_tup (pa_cons pe_str (pa_cons pe_str pa_nil))) (by rfl)) (pw_and1 (pt_not (pt_val (pe_call (ok_holds_over_folds T) (hr.mono (by decide)) (by rfl) T.f_holds_over_folds.g T.f_holds_over_folds.F.kp T.f_holds_over_folds.b .nil pass0 (pa_cons (pv 0) (pa_cons (pv 2) pa_nil)))))))) (pss_one (ps_ret (pe_tup (pa_cons (pe_glob (by rfl) T.c_FOLD_ZONE rfl) (pa_cons (pe_call (ok_arguments_in_fold T) (hr.mono (by decide)) (by rfl) T.f_arguments_in_fold.g T.f_arguments_in_fold.F.kp T.f_arguments_in_fold.b .nil pass0 (pa_cons (pv 0) (pa_cons (pv 2) pa_nil))) pa_nil))))) pss_nil) (pss_one (ps_ret pe_non))))))), ?_⟩
  walk_at "qq"
  refine ⟨_, y, rfl, hw, ?_⟩
  walk_at "qq"
  refine ⟨kind, rfl, hk, ?_⟩
  walk_at "qq"
  refine ⟨r, rfl, ?_⟩
  walk_at "gg"
  refine g_newT (by simp) fun p1 H1 n1 e1 h1 => ?_
  refine g_inTu (SqT.of h1) rfl rfl ?_
  walk_at "qq"
  have c1 : inV (.str kind) [.str "skips", .str "both"] = decide (kind = "skips" ∨ kind = "both") := by rcases hk with rfl | rfl | rfl | rfl <;> decide +kernel
  have c2 : inV (.str kind) [.str "repeats", .str "both"] = decide (kind = "repeats" ∨ kind = "both") := by rcases hk with rfl | rfl | rfl | rfl <;> decide +kernel
  rw [c1]
  have hw1 := hw.tr (TrT.of e1)
  have second : ∀ Hs, Ex H Hs → ¬ ((kind = "skips" ∨ kind = "both") ∧ (met y r).1 = false) →
      tIfS (tAnd (tTest (tOp (rIn K false) (tVar 1) (tTup (tCons (tC (.str "repeats")) (tCons (tC (.str "both")) tNil)))))
        (tNot (tB (tCall (sp_holds_over_folds K) [] E0 (tCons (tVar 0) (tCons (tVar 2) tNil))))))
        (tRet (tTup (tCons (tC (.ref T.a_FOLD_ZONE)) (tCons (tCall (sp_arguments_in_fold K) [] E0 (tCons (tVar 0) (tCons (tVar 2) tNil))) tNil)))) tNext
        { nx := fun σ H' => tRet (tC .non) { nx := fun _ H' => Q .non H', rt := Q } σ H', rt := Q } (start ["library", "kind", "rule"] [wv, .str kind, .str (ruleS r)]) Hs := by
    intro Hs es ng
    have hws := hw.tr (TrT.of es)
    walk_at "gg"
    refine g_newT (by simp) fun p2 H2 n2 e2 h2 => ?_
    refine g_inTu (SqT.of h2) rfl rfl ?_
    walk_at "qq"
    rw [c2]
    have hw2 := hws.tr (TrT.of e2)
    refine if_d (fun c => ?_) (fun c => ?_)
    · walk_at "qq"
      refine ⟨_, y, r, rfl, hw2, fun H3 e3 => ?_⟩
      walk_at "qq"
      cases hm : (met y r).2 with
      | true =>
        walk_at "qq"
        refine k _ _ (es.trans (e2.trans e3)) ?_
        unfold cexO
        rw [if_neg ng, if_neg (by rw [hm]; simp)]
        rfl
      | false =>
        walk_at "qq"
        refine g_tup ?_
        walk_at "qq"
        refine ⟨_, y, r, rfl, hw2.tr (TrT.of e3), hm, fun v H4 e4 hv => ?_⟩
        walk_at "qq"
        refine g_newT (by simp) fun p5 H5 n5 e5 h5 => ?_
        refine k _ _ (es.trans (e2.trans (e3.trans (e4.trans e5)))) ?_
        unfold cexO
        rw [if_neg ng, if_pos ⟨c, hm⟩]
        exact ⟨p5, _, _, rfl, SqT.of h5, zoneK T.q_FOLD_ZONE T.q_FOLD_ZONE_1 T.q_FOLD_ZONE_1_0, hv.tr (TrT.of e5)⟩
    · walk_at "qq"
      refine k _ _ (es.trans e2) ?_
      unfold cexO
      rw [if_neg ng, if_neg fun h => c h.1]
      rfl
  refine if_d (fun c => ?_) (fun c => ?_)
  · walk_at "qq"
    refine ⟨_, y, r, rfl, hw1, fun H2 e2 => ?_⟩
    walk_at "mm"
    cases hm : (met y r).1 with
    | true =>
      walk_at "mm"
      exact second _ (e1.trans e2) fun h => by rw [hm] at h; cases h.2
    | false =>
      walk_at "mm"
      refine g_tup ?_
      walk_at "qq"
      refine ⟨_, y, r, rfl, hw1.tr (TrT.of e2), hm, fun v H3 e3 hv => ?_⟩
      walk_at "qq"
      refine g_newT (by simp) fun p4 H4 n4 e4 h4 => ?_
      refine k _ _ (e1.trans (e2.trans (e3.trans e4))) ?_
      unfold cexO
      rw [if_pos ⟨c, hm⟩]
      exact ⟨p4, _, _, rfl, SqT.of h4, zoneK T.q_GAP_ZONE T.q_GAP_ZONE_1 T.q_GAP_ZONE_1_0, hv.tr (TrT.of e4)⟩
  · walk_at "mm"
    exact second _ e1 fun h => c h.1
theorem ok_holds (T : Txt w K mg) : FnOk P w K mg base CX0 5 T.f_holds.f T.f_holds.fd ["library", "kind", "rule"] (sp_holds K) := by
  refine T.f_holds.F.ok sc_holds (fun vs H Q E h => ?_) (fun cdv A outer s H vs Q E hr h => ?_)
  · obtain ⟨wv, w, kind, r, rfl, _⟩ := h
    rfl
  obtain ⟨wv, y, kind, r, rfl, hw, hk, k⟩ := h
  refine ⟨(tRet (tOp r_isN (tCall (sp_counterexample K) [] E0 (tCons (tVar 0) (tCons (tVar 1) (tCons (tVar 2) tNil)))) (tC .non))),
    PSs.nox (pss_one (ps_ret (pe_cmpR op_isN (pe_call (ok_counterexample T) (hr.mono (by decide)) (by rfl) T.f_counterexample.g T.f_counterexample.F.kp T.f_counterexample.b .nil pass0 (pa_cons (pv 0) (pa_cons (pv 1) (pa_cons (pv 2) pa_nil)))) pe_non (nomark _)))), ?_⟩
  walk_at "qq"
  refine ⟨_, y, kind, r, rfl, hw, hk, fun v H1 e1 hv => ?_⟩
  walk_at "qq"
  have k := k _ e1
  rw [← cex_holds hk] at k
  cases hc : cexO y kind r with
  | none =>
    rw [hc] at hv k
    cases (show v = .non from hv)
    exact k
  | some c =>
    rw [hc] at hv k
    obtain ⟨a, zv, av, rfl, _⟩ := hv
    exact k
end

theorem if_int {b : Bool} {σ : St} {H : Hp} {Q : VK} (h : Q (.int (if b = true then 2 else -2)) H) : if b = true then tC (.int 2) σ H Q else tOp (rI0 fun i j => .int (i - j)) (tC (.int 0)) (tC (.int 2)) σ H Q := by
  cases b with
  | true => exact if_tt (g_c h)
  | false => exact if_ff (g_op (g_c (g_c (g_I0 h))))
theorem g_lstRg {ta tb : TE} {σ : St} {H : Hp} {Q : VK} (h : ta σ H fun x H1 => tb σ H1 fun y H2 => ∃ i j, x = .int i ∧ y = .int j ∧ (RgOk i j ∧ ∀ q, H2 q = none → Q (.ref q) (upd H2 q (.lst (rgV i j))))) : tLstRg (tRg2 ta tb) σ H Q := h
theorem g_sliceHi {r : V → Option Int → Option Int → Hp → VK → Prop} {te th : TE} {σ : St} {H : Hp} {Q : VK} (h : te σ H fun x H1 => th σ H1 fun y H2 => ∃ k, y = .int k ∧ r x none (some k) H2 Q) : tSl r te tNoPart (tPart th) σ H Q := h
theorem g_slA {K : PySem.W.Frag} {a : Addr} {xs : List V} {k : Nat} {H : Hp} {Q : VK} (q : SqT K H a xs) (k2 : k ≤ xs.length) (h : ∀ p H', Ex H H' → SqT K H' p (xs.take k) → Q (.ref p) H') : rSlA K (.ref a) none (some (k : Int)) H Q := by
  have e1 : HT.sIx xs.length xs.length (some (k : Int)) = k := by
    rw [HT.sIx_nat]
    omega
  have e2 : HT.sIx xs.length 0 none = 0 := HT.sIx_none _ _
  refine ⟨a, xs, rfl, q, fun w => ?_, fun _ p hp => ?_⟩
  · rw [e1] at w
    refine h a H (Evl.Ex.refl _) ?_
    rw [w.2, List.take_length]
    exact q
  · have c : cutV xs none (some (k : Int)) = xs.take k := by
      unfold cutV
      rw [e1, e2]
      rfl
    rw [c]
    exact h p _ (Evl.Ex.new hp) (SqT.of upd_same)
theorem pd_take {α β : Type} {F : α → β → Prop} : ∀ (n : Nat) {xs : List α} {ys : List β}, Paired F xs ys → Paired F (xs.take n) (ys.take n)
  | 0, _, _, _ => .nil
  | _ + 1, _, _, .nil => .nil
  | n + 1, _, _, .cons h t => .cons h (pd_take n t)
theorem times_few {w : Way} {z : Zone} (x : Int) : (times w z x).length ≤ 2 := by
  unfold times
  split
  · cases w.fold <;> simp
  · split <;> simp
theorem flat_few {w : Way} {z : Zone} : ∀ l : List Int, (l.flatMap (times w z)).length ≤ 2 * l.length
  | [] => Nat.le_refl _
  | x :: l => by
    rw [List.flatMap_cons, List.length_append, List.length_cons]
    have := times_few (w := w) (z := z) x
    have := flat_few (w := w) (z := z) l
    omega
theorem spots_v : rgV (0 - 6) 7 ++ [V.int (0 - 25), V.int (0 - 24)] = spots.map V.int := by decide +kernel
theorem pd_intsV : ∀ l : List Int, Paired (fun x d => x = V.int d) (l.map V.int) l
  | [] => .nil
  | _ :: l => .cons rfl (pd_intsV l)
theorem pd_intsS {m : List Int} : ∀ l : List Int, (∀ d ∈ l, d ∈ m) → Paired (fun x d => x = V.int d ∧ d ∈ m) (l.map V.int) l
  | [], _ => .nil
  | d :: l, h => .cons ⟨rfl, h d (by simp)⟩ (pd_intsS l fun e he => h e (by simp [he]))
theorem pd_intsM (l : List Int) : Paired (fun x d => x = V.int d ∧ d ∈ l) (l.map V.int) l := pd_intsS l fun _ h => h
theorem sh_cat (r : Rule) : (cat r = 0 ∧ ∃ s : Str, shapeR r = [s] ∧ decide (s = "time") = !isRd r) ∨ (cat r = 1 ∧ ∃ rest : List Str, shapeR r = ("time" : Str) :: ("duration" : Str) :: rest ∧ rest.length ≤ 1) ∨
    (cat r = 2 ∧ ∃ rest : List Str, shapeR r = ("time" : Str) :: ("time" : Str) :: rest ∧ rest.length ≤ 1) := by
  cases r <;> first
    | exact .inl ⟨rfl, _, rfl, by decide +kernel⟩
    | exact .inr (.inl ⟨rfl, [], rfl, by decide⟩)
    | exact .inr (.inl ⟨rfl, ["duration"], rfl, by decide⟩)
    | exact .inr (.inr ⟨rfl, [], rfl, by decide⟩)
    | exact .inr (.inr ⟨rfl, ["duration"], rfl, by decide⟩)
theorem rd_word (r : Rule) : ∃ s rest, shapeR r = s :: rest ∧ inV (.str s) [.str "instant", .str "reading"] = isRd r := by
  cases r <;> exact ⟨_, _, rfl, by decide +kernel⟩
theorem all_app {α : Type} (f : α → Bool) (l : List α) (x : α) : (l ++ [x]).all f = (l.all f && f x) := by
  rw [List.all_append, List.all_cons, List.all_nil, Bool.and_true]
theorem emp_all {α : Type} (f : α → Bool) : ∀ l : List α, (l.filter fun x => !f x).isEmpty = l.all f
  | [] => rfl
  | x :: l => by
    rw [List.filter_cons, List.all_cons, ← emp_all f l]
    cases h : f x <;> simp
section
variable {P : Program} {w : World} {K : PySem.W.Frag} {mg : Str → Option Value} {base : Heap}
theorem ok_law (T : Txt w K mg) : FnOk P w K mg base CX0 8 T.f_law.f T.f_law.fd ["script"] (sp_law K) := by
  refine T.f_law.F.ok sc_law (fun vs H Q E h => ?_) (fun cdv A outer s H vs Q E hr h => ?_)
  · obtain ⟨a, ns, rfl, _⟩ := h
    rfl
  obtain ⟨a, ns, rfl, hs, h63, k⟩ := h
  refine ⟨(tSeq (tAsg (tLst (tCons (tVar 0) (tCons (tC (.int 0)) (tCons (tC (.int 15343)) (tCons (tC (.int 0)) tNil))))) (gName 1)) (tSeq (tAsg (tTup (tCons (tCall (sp_law_library K) [] E0 (tCons (tVar 1) tNil)) (tCons (tCall (sp_law_pick K) [] E0 (tCons (tVar 1) (tCons (tCall (sp_law_rules K) [] E0 tNil) tNil))) (tCons (tCall (sp_law_pick K) [] E0 (tCons (tVar 1) (tCons (tLst (tCons (tC (.str "skips")) (tCons (tC (.str "repeats")) tNil))) tNil))) tNil)))) (gTup K 3 (gCons (gName 2) (gCons (gName 3) (gCons (gName 4) gNil))))) (tSeq (tAsg (tTup (tCons (tC (.int 0)) (tCons (tTup (tCons (tTup (tCons (tC (.int 0)) (tCons (tIf (tTest (tOp rEq (tVar 4) (tC (.str "skips")))) (tC (.int 2)) (tOp (rI0 fun i j => .int (i - j)) (tC (.int 0)) (tC (.int 2)))) tNil))) tNil)) tNil))) (gName 5)) (tSeq (tAsg (tTup (tCons (tLst tNil) (tCons (tCall (sp_law_shape K) [] E0 (tCons (tVar 3) tNil)) (tCons (tC (.bl true)) tNil)))) (gTup K 3 (gCons (gName 6) (gCons (gName 7) (gCons (gName 8) gNil))))) (tSeq (tFor (iList K (tOp rCat (tLstRg (tRg2 (tOp (rI0 fun i j => .int (i - j)) (tC (.int 0)) (tC (.int 6))) (tC (.int 7)))) (tLst (tCons (tOp (rI0 fun i j => .int (i - j)) (tC (.int 0)) (tC (.int 25))) (tCons (tOp (rI0 fun i j => .int (i - j)) (tC (.int 0)) (tC (.int 24))) tNil))))) (gName 9) (tAsg (tOp rCat (tVar 6) (tCall (sp_law_times K) [] E0 (tCons (tVar 2) (tCons (tVar 5) (tCons (tVar 9) tNil))))) (gName 6))) (tSeq (tFor (iList K (tVar 6)) (gName 10) (tIfS (tAnd (tTest (tOp (rI0 fun i j => .bl (decide (j < i))) (tCB (Evl.rLenS K) (tCons (tVar 7) tNil)) (tC (.int 1)))) (tTest (tOp rEq (tOp (rIxT K) (tVar 7) (tC (.int 1))) (tC (.str "duration"))))) (tFor (iList K (tLst (tCons (tOp (rI0 fun i j => .int (i - j)) (tC (.int 0)) (tC (.int 4))) (tCons (tOp (rI0 fun i j => .int (i - j)) (tC (.int 0)) (tC (.int 1))) (tCons (tC (.int 1)) (tCons (tC (.int 2)) (tCons (tC (.int 3)) (tCons (tC (.int 4)) tNil)))))))) (gName 11) (tAsg (tAndV (tVar 8) (tOp (rEqD K) (tLc (iList K (tLst (tCons (tOp (rI0 fun i j => .int (i - j)) (tC (.int 0)) (tC (.int 1))) (tCons (tC (.int 1)) (tCons (tC (.int 2)) (tCons (tC (.int 3)) (tCons (tC (.int 4)) tNil))))))) (gName 13) (tNot (tB (tCall (sp_law_fits K) [] E0 (tCons (tVar 2) (tCons (tVar 5) (tCons (tVar 3) (tCons (tSl (rSlA K) (tTup (tCons (tVar 10) (tCons (tVar 11) (tCons (tVar 13) tNil)))) tNoPart (tPart (tCB (Evl.rLenS K) (tCons (tVar 7) tNil)))) tNil))))))) (tVar 13) [13]) (tLst tNil))) (gName 8))) (tIfS (tTest (tOp (rI0 fun i j => .bl (decide (j < i))) (tCB (Evl.rLenS K) (tCons (tVar 7) tNil)) (tC (.int 1)))) (tFor (iList K (tVar 6)) (gName 12) (tAsg (tAndV (tVar 8) (tOp (rEqD K) (tLc (iList K (tLst (tCons (tC (.int 1)) (tCons (tC (.int 2)) (tCons (tC (.int 3)) (tCons (tC (.int 4)) tNil)))))) (gName 11) (tNot (tB (tCall (sp_law_fits K) [] E0 (tCons (tVar 2) (tCons (tVar 5) (tCons (tVar 3) (tCons (tSl (rSlA K) (tTup (tCons (tVar 10) (tCons (tVar 12) (tCons (tVar 11) tNil)))) tNoPart (tPart (tCB (Evl.rLenS K) (tCons (tVar 7) tNil)))) tNil))))))) (tVar 11) [11]) (tLst tNil))) (gName 8))) (tAsg (tAndV (tVar 8) (tCall (sp_law_fits K) [] E0 (tCons (tVar 2) (tCons (tVar 5) (tCons (tVar 3) (tCons (tTup (tCons (tIf (tTest (tOp rEq (tOp (rIxT K) (tVar 7) (tC (.int 0))) (tC (.str "time")))) (tVar 10) (tOp (rI0 fun i j => .int (i + j)) (tOp (rIxT K) (tVar 10) (tC (.int 0))) (tC (.int 2)))) tNil)) tNil)))))) (gName 8))))) (tSeq (tIfS (tTest (tOp (rIn K false) (tOp (rIxT K) (tVar 7) (tC (.int 0))) (tLst (tCons (tC (.str "instant")) (tCons (tC (.str "reading")) tNil))))) (tAsg (tOp (rEqD K) (tLc (iRng2 (tCons (tOp (rI0 fun i j => .int (i - j)) (tC (.int 0)) (tC (.int 6))) (tCons (tC (.int 7)) tNil))) (gName 14) (tNot (tB (tCall (sp_law_fits K) [] E0 (tCons (tVar 2) (tCons (tVar 5) (tCons (tVar 3) (tCons (tTup (tCons (tVar 14) tNil)) tNil))))))) (tVar 14) [14]) (tLst tNil)) (gName 8)) tNext) (tRet (tCall (sp_law_alike K 2) [] E0 (tCons (tCall (sp_holds K) [] E0 (tCons (tVar 2) (tCons (tVar 4) (tCons (tVar 3) tNil)))) (tCons (tVar 8) tNil))))))))))),
    PSs.nox (pss_cons (ps_set (i := 1) sc_law.nd rfl (Or.inl rfl) (pe_lst (pa_cons (pv 0) (pa_cons pe_int (pa_cons pe_int (pa_cons pe_int pa_nil)))))) (pss_cons (ps_asg (pe_tup (pa_cons (pe_call (ok_law_library T) (hr.mono (by decide)) (by rfl) T.f_law_library.g T.f_law_library.F.kp T.f_law_library.b .nil pass0 (pa_cons (pv 1) pa_nil)) (pa_cons (pe_call (ok_law_pick T) (hr.mono (by decide)) (by rfl) T.f_law_pick.g T.f_law_pick.F.kp T.f_law_pick.b .nil pass0 (pa_cons (pv 1) (pa_cons (pe_call0 (ok_law_rules T) (hr.mono (by decide)) (by rfl) T.f_law_rules.g T.f_law_rules.F.kp T.f_law_rules.b .nil pass0) pa_nil))) (pa_cons (pe_call (ok_law_pick T) (hr.mono (by decide)) (by rfl) T.f_law_pick.g T.f_law_pick.F.kp T.f_law_pick.b .nil pass0 (pa_cons (pv 1) (pa_cons (pe_lst (pa_cons pe_str (pa_cons pe_str pa_nil))) pa_nil))) pa_nil)))) (pg_tup rfl (pgs_cons (pg_name (i := 2) sc_law.nd rfl (Or.inr rfl)) (pgs_cons (pg_name (i := 3) sc_law.nd rfl (Or.inr rfl)) (pgs_cons (pg_name (i := 4) sc_law.nd rfl (Or.inl rfl)) pgs_nil))))) (pss_cons (ps_set (i := 5) sc_law.nd rfl (Or.inr rfl) (pe_tup (pa_cons pe_int (pa_cons (pe_tup (pa_cons (pe_tup (pa_cons pe_int (pa_cons (pe_ifExp (pt_cmpR op_eq (pv 4) pe_str (nomark _)) pe_int (pe_op op_sub pe_int pe_int)) pa_nil))) pa_nil)) pa_nil)))) (pss_cons (ps_asg (pe_tup (pa_cons (pe_lst pa_nil) (pa_cons (pe_call (ok_law_shape T) (hr.mono (by decide)) (by rfl) T.f_law_shape.g T.f_law_shape.F.kp T.f_law_shape.b .nil pass0 (pa_cons (pv 3) pa_nil)) (pa_cons pe_bl pa_nil)))) (pg_tup rfl (pgs_cons (pg_name (i := 6) sc_law.nd rfl (Or.inl rfl)) (pgs_cons (pg_name (i := 7) sc_law.nd rfl (Or.inr rfl)) (pgs_cons (pg_name (i := 8) sc_law.nd rfl (Or.inl rfl)) pgs_nil))))) (pss_cons (ps_for PassesOwn.never rfl (pi_list (pe_op op_cat (pe_listRg rfl (by rfl) T.z_list (prg_2 (by rfl) T.z_range (pe_op op_sub pe_int pe_int) pe_int)) (pe_lst (pa_cons (pe_op op_sub pe_int pe_int) (pa_cons (pe_op op_sub pe_int pe_int) pa_nil))))) (pg_name (i := 9) sc_law.nd rfl (Or.inl rfl)) (pss_one (ps_set (i := 6) sc_law.nd rfl (Or.inl rfl) (pe_op op_cat (pv 6) (pe_call (ok_law_times T) (hr.mono (by decide)) (by rfl) T.f_law_times.g T.f_law_times.F.kp T.f_law_times.b .nil pass0 (pa_cons (pv 2) (pa_cons (pv 5) (pa_cons (pv 9) pa_nil)))))))) (pss_cons (ps_for PassesOwn.never rfl (pi_list (pv 6)) (pg_name (i := 10) sc_law.nd rfl (Or.inr rfl)) (pss_one (ps_if (PW.pt (pw_and (pt_cmpR op_gt (pe_callB call_len_seq (by rfl) T.z_len (by decide +kernel) (pa_cons (pv 7) pa_nil)) pe_int (nomark _)) (pw_and1 (pt_cmpR op_eq (pe_ix ix_tup (pv 7) pe_int (fun _ _ => rfl)) pe_str (nomark _))))) (pss_one (ps_for PassesOwn.never rfl (pi_list (pe_lst (pa_cons (pe_op op_sub pe_int pe_int) (pa_cons (pe_op op_sub pe_int pe_int) (pa_cons pe_int (pa_cons pe_int (pa_cons pe_int (pa_cons pe_int pa_nil)))))))) (pg_name (i := 11) sc_law.nd rfl (Or.inr rfl)) (pss_one (ps_set (i := 8) sc_law.nd rfl (Or.inl rfl) (pe_and (pv 8) (pe_one (pe_cmpR (op_eqD hr.units) (pe_lc (own := [("e", 13)]) rfl sc_law.nd (pi_list (pe_lst (pa_cons (pe_op op_sub pe_int pe_int) (pa_cons pe_int (pa_cons pe_int (pa_cons pe_int (pa_cons pe_int pa_nil))))))) (blkOk_by (own := [("e", 13)]) (N := ["script", "row", "way", "rule", "kind", "zone", "times", "words", "good", "spot", "t", "d", "u", "e", "x"]) (sc := defScope s_law) (by decide +kernel)) (fun _ _ _ _ _ => (pg_name (i := 13) sc_law.nd rfl (Or.inl rfl))) (fun _ _ _ _ _ => (pts_one (pt_not (pt_val (pe_call (ok_law_fits T) (hr.mono (by decide)) (by rfl) T.f_law_fits.g T.f_law_fits.F.kp T.f_law_fits.b .nil pass0 (pa_cons (pv 2) (pa_cons (pv 5) (pa_cons (pv 3) (pa_cons (pe_slice sl_tupA (pe_tup (pa_cons (pv 10) (pa_cons (pv 11) (pa_cons (pv 13) pa_nil)))) po_none (po_some (pe_callB call_len_seq (by rfl) T.z_len (by decide +kernel) (pa_cons (pv 7) pa_nil)))) pa_nil))))))))) (fun _ _ _ _ _ => (pv 13))) (pe_lst pa_nil) (nomark _)))))))) (pss_one (ps_if (pt_cmpR op_gt (pe_callB call_len_seq (by rfl) T.z_len (by decide +kernel) (pa_cons (pv 7) pa_nil)) pe_int (nomark _)) (pss_one (ps_for PassesOwn.never rfl (pi_list (pv 6)) (pg_name (i := 12) sc_law.nd rfl (Or.inr rfl)) (pss_one (ps_set (i := 8) sc_law.nd rfl (Or.inl rfl) (pe_and (pv 8) (pe_one (pe_cmpR (op_eqD hr.units) (pe_lc (own := [("d", 11)]) rfl sc_law.nd (pi_list (pe_lst (pa_cons pe_int (pa_cons pe_int (pa_cons pe_int (pa_cons pe_int pa_nil)))))) (blkOk_by (own := [("d", 11)]) (N := ["script", "row", "way", "rule", "kind", "zone", "times", "words", "good", "spot", "t", "d", "u", "e", "x"]) (sc := defScope s_law) (by decide +kernel)) (fun _ _ _ _ _ => (pg_name (i := 11) sc_law.nd rfl (Or.inl rfl))) (fun _ _ _ _ _ => (pts_one (pt_not (pt_val (pe_call (ok_law_fits T) (hr.mono (by decide)) (by rfl) T.f_law_fits.g T.f_law_fits.F.kp T.f_law_fits.b .nil pass0 (pa_cons (pv 2) (pa_cons (pv 5) (pa_cons (pv 3) (pa_cons (pe_slice sl_tupA (pe_tup (pa_cons (pv 10) (pa_cons (pv 12) (pa_cons (pv 11) pa_nil)))) po_none (po_some (pe_callB call_len_seq (by rfl) T.z_len (by decide +kernel) (pa_cons (pv 7) pa_nil)))) pa_nil))))))))) (fun _ _ _ _ _ => (pv 11))) (pe_lst pa_nil) (nomark _)))))))) (pss_one (ps_set (i := 8) sc_law.nd rfl (Or.inl rfl) (pe_and (pv 8) (pe_one (pe_call (ok_law_fits T) (hr.mono (by decide)) (by rfl) T.f_law_fits.g T.f_law_fits.F.kp T.f_law_fits.b .nil pass0 (pa_cons (pv 2) (pa_cons (pv 5) (pa_cons (pv 3) (pa_cons (pe_tup (pa_cons (pe_ifExp (pt_cmpR op_eq (pe_ix ix_tup (pv 7) pe_int (fun _ _ => rfl)) pe_str (nomark _)) (pv 10) (pe_op op_add (pe_ix ix_tup (pv 10) pe_int (fun _ _ => rfl)) pe_int)) pa_nil)) pa_nil)))))))))))))) (pss_cons (ps_if (pt_cmpR op_in_seq (pe_ix ix_tup (pv 7) pe_int (fun _ _ => rfl)) (pe_lst (pa_cons pe_str (pa_cons pe_str pa_nil))) (by rfl)) (pss_one (ps_set (i := 8) sc_law.nd rfl (Or.inl rfl) (pe_cmpR (op_eqD hr.units) (pe_lc (own := [("x", 14)]) rfl sc_law.nd (pi_range2 (by rfl) T.z_range (pa_cons (pe_op op_sub pe_int pe_int) (pa_cons pe_int pa_nil))) (blkOk_by (own := [("x", 14)]) (N := ["script", "row", "way", "rule", "kind", "zone", "times", "words", "good", "spot", "t", "d", "u", "e", "x"]) (sc := defScope s_law) (by decide +kernel)) (fun _ _ _ _ _ => (pg_name (i := 14) sc_law.nd rfl (Or.inl rfl))) (fun _ _ _ _ _ => (pts_one (pt_not (pt_val (pe_call (ok_law_fits T) (hr.mono (by decide)) (by rfl) T.f_law_fits.g T.f_law_fits.F.kp T.f_law_fits.b .nil pass0 (pa_cons (pv 2) (pa_cons (pv 5) (pa_cons (pv 3) (pa_cons (pe_tup (pa_cons (pv 14) pa_nil)) pa_nil))))))))) (fun _ _ _ _ _ => (pv 14))) (pe_lst pa_nil) (nomark _)))) pss_nil) (pss_one (ps_ret (pe_call (ok_law_alike T 2) (hr.mono (by decide)) (by rfl) T.f_law_alike.g T.f_law_alike.F.kp T.f_law_alike.b .nil pass0 (pa_cons (pe_call (ok_holds T) (hr.mono (by decide)) (by rfl) T.f_holds.g T.f_holds.F.kp T.f_holds.b .nil pass0 (pa_cons (pv 2) (pa_cons (pv 4) (pa_cons (pv 3) pa_nil)))) (pa_cons (pv 8) pa_nil)))))))))))), ?_⟩
  walk_at "gg"
  refine g_newL (by simp) fun r H1 n1 e1 h1 => ?_
  walk_at "gg"
  have R1 : Row K H1 (r, a, ns) := Row.new hs n1 e1 h1 (by omega) (by omega)
  refine ⟨(r, a, ns), rfl, R1, fun wv y H2 f2 R2 hw2 => ?_⟩
  walk_at "gg"
  refine ⟨rfl, fun p3 H3 n3 e3 h3 => ?_⟩
  walk_at "gg"
  obtain ⟨_, q2⟩ := R2.lst
  refine ⟨(r, a, ns), _, _, rfl, R2.ex e3, h3, (ne_of_none q2 n3).symm, by decide, by decide, fun x H4 m4 f4 R4 => ?_⟩
  obtain ⟨d, _, rfl⟩ := List.mem_map.mp m4
  have hw4 := (hw2.tr (TrT.of e3)).tr ((R2.ex e3).tr f4)
  unfold RuleV
  walk_at "gg"
  refine g_newL (by simp) fun l5 H5 n5 e5 h5 => ?_
  walk_at "gg"
  obtain ⟨_, q4⟩ := R4.lst
  refine ⟨(r, a, ns), _, _, rfl, R4.ex e5, h5, (ne_of_none q4 n5).symm, by simp, by simp, fun x H6 m6 f6 R6 => ?_⟩
  have hw6 := (hw4.tr (TrT.of e5)).tr ((R4.ex e5).tr f6)
  obtain ⟨kind, rfl, hk⟩ : ∃ kind : Str, x = .str kind ∧ (kind = "skips" ∨ kind = "repeats") := by
    simp only [List.mem_cons, List.not_mem_nil, or_false] at m6
    rcases m6 with rfl | rfl
    · exact ⟨_, rfl, .inl rfl⟩
    · exact ⟨_, rfl, .inr rfl⟩
  clear h1 h3 h5 n1 n3 n5 hw2 hw4 R1 R2 R4 m4 m6 q2 q4 f2 f4 f6 e1 e3 e5
  walk_at "gg"
  refine g_newT (by simp) fun p6 H6a n6a e6a h6a => ?_
  have hw6 := hw6.tr (TrT.of e6a)
  walk_at "gg"
  refine if_int ?_
  walk_at "gg"
  refine g_newT (by simp) fun p7 H7 n7 e7 h7 => ?_
  walk_at "gg"
  refine g_newT (by simp) fun p8 H8 n8 e8 h8 => ?_
  walk_at "gg"
  refine g_newT (by simp) fun p9 H9 n9 e9 h9 => ?_
  walk_at "gg"
  refine g_newL (by simp) fun l10 H10 n10 e10 h10 => ?_
  walk_at "gg"
  refine ⟨d, rfl, fun q11 H11 e11 h11 => ?_⟩
  have e610 := ((e7.trans e8).trans e9).trans e10
  have hw11 := hw6.tr (TrT.of (e610.trans e11))
  generalize ez : zoneK2 kind = z
  have hv11 : ZV K H11 (.ref p9) z := by
    rw [← ez]
    exact ⟨p9, _, rfl, Evl.ex_t (e10.trans e11) (SqT.of h9), p8, _, rfl, Evl.ex_t (e9.trans (e10.trans e11)) (SqT.of h8), .cons ⟨p7, rfl, Evl.ex_t (e8.trans (e9.trans (e10.trans e11))) (SqT.of h7)⟩ .nil⟩
  have ho : okZ z = true := by
    rw [← ez]
    rcases hk with rfl | rfl <;> decide +kernel
  have hz := OkZ.of ho
  have h10' : H11 l10 = some (.lst []) := e11 _ _ h10
  clear h7 h8 h9 h10 n7 n8 n9 n10 e7 e8 e9 e10 e11 e610 hw6 h6a n6a e6a
  walk_at "gg"
  refine g_newT (by simp) fun p11 H11a n11a e11a h11a => ?_
  walk_at "gg"
  have hw11 := hw11.tr (TrT.of e11a)
  have hv11 := hv11.tr (TrT.of e11a)
  have h11 := Evl.ex_t e11a h11
  have h10' := e11a _ _ h10'
  clear h11a n11a e11a
  refine g_lstRg ?_
  walk_at "gg"
  refine ⟨_, _, rfl, rfl, ⟨by omega, by omega, by omega, by omega, by decide⟩, fun q12 n12 => ?_⟩
  have e12 : Ex H11a (upd H11a q12 (.lst (rgV (0 - 6) 7))) := Evl.Ex.new n12
  have h12 : upd H11a q12 (.lst (rgV (0 - 6) 7)) q12 = some (.lst (rgV (0 - 6) 7)) := upd_same
  generalize upd H11a q12 (.lst (rgV (0 - 6) 7)) = H12 at e12 h12 ⊢
  walk_at "gg"
  refine g_newL (by simp) fun l13 H13 n13 e13 h13 => ?_
  refine g_cat (e13 _ _ h12) h13 (by rw [rgV_length]; decide) fun l14 H14 n14 e14 h14 => ?_
  rw [spots_v] at h14
  have e1114 := (e12.trans e13).trans e14
  have hw14 := hw11.tr (TrT.of e1114)
  have hv14 := hv11.tr (TrT.of e1114)
  have hq14 := Evl.ex_t e1114 h11
  have hl14 : H14 l10 = some (.lst []) := e1114 _ _ h10'
  clear e12 e13 e14 h12 h13 n12 n13 n14 e1114 hw11 hv11 h11 h10'
  refine g_forL (SqL.of h14) (pd_intsV spots) (F := fun _ x d => x = V.int d) (fun l σ' H' => ∃ done pt xs s9, spots = done ++ l ∧
      σ' = [some (.ref a), some (.ref r), some wv, some (.str (ruleS d)), some (.str kind), some (.ref p9), some (.ref pt), some (.ref q11), some (.bl true), s9, none, none, none, none, none] ∧
      Ex H14 H' ∧ H' pt = some (.lst xs) ∧ PVs K H' xs (done.flatMap (times y z))) ⟨[], _, [], _, rfl, rfl, Evl.Ex.refl _, hl14, .nil⟩ ?_ ?_ ?_
  · rintro l σ' H' ⟨_, _, _, _, _, _, e, _⟩
    exact ⟨SqL.of (e _ _ h14), fun _ _ h => h⟩
  · rintro sp l x σ' H15 ⟨done, pt, xs, s9, sp_, rfl, e15, hpt, hxs⟩ rfl
    have lim := spot_lim (show sp ∈ spots by rw [sp_]; simp)
    walk_at "gg"
    refine ⟨_, _, y, z, sp, rfl, hw14.tr (TrT.of e15), hv14.tr (TrT.of e15), hz, by unfold Sm; omega, fun p16 ys H16 n16 e16 h16 hys => ?_⟩
    have len1 := PVs.len hxs
    have len2 := PVs.len hys
    have len3 := flat_few (w := y) (z := z) done
    have len4 := times_few (w := y) (z := z) sp
    have len5 : done.length ≤ 15 := by
      have := congrArg List.length sp_
      rw [List.length_append, show spots.length = 15 from rfl] at this
      omega
    refine g_cat (e16 _ _ hpt) h16 (by omega) fun l17 H17 n17 e17 h17 => ?_
    walk_at "gg"
    refine ⟨done ++ [sp], l17, xs ++ ys, _, by rw [sp_, List.append_assoc]; rfl, rfl, (e15.trans e16).trans e17, h17, ?_⟩
    rw [List.flatMap_append, List.flatMap_cons, List.flatMap_nil, List.append_nil]
    exact pd_app ((hxs.tr (TrT.of e16)).tr (TrT.of e17)) (hys.tr (TrT.of e17))
  rintro σ' H15 ⟨done, pt, xs, s9, sp_, rfl, e15, hpt, hxs⟩
  rw [List.append_nil] at sp_
  subst sp_
  have hxs : PVs K H15 xs (tms y z) := hxs
  have hw15 := hw14.tr (TrT.of e15)
  have hv15 := hv14.tr (TrT.of e15)
  have hq15 := Evl.ex_t e15 hq14
  clear h14 hw14 hv14 hq14 hl14 e15
  have few : (tms y z).length ≤ 30 := flat_few (w := y) (z := z) spots
  walk_at "gg"
  refine g_forL (SqL.of hpt) hxs (F := PV K) (fun l σ' H' => ∃ done s9 s10 s11 s12 s13 s14, tms y z = done ++ l ∧
      σ' = [some (.ref a), some (.ref r), some wv, some (.str (ruleS d)), some (.str kind), some (.ref p9), some (.ref pt), some (.ref q11), some (.bl (done.all (goodT y z d))), s9, s10, s11, s12, s13, s14] ∧ Ex H15 H')
    ⟨[], _, _, _, _, _, _, rfl, rfl, Evl.Ex.refl _⟩ ?_ ?_ ?_
  · rintro l σ' H' ⟨_, _, _, _, _, _, _, _, _, e⟩
    exact ⟨SqL.of (e _ _ hpt), fun _ _ h => h.tr (TrT.of e)⟩
  · rintro t l x σ' H16 ⟨done, s9, s10, s11, s12, s13, s14, sp_, rfl, e16⟩ ht
    obtain ⟨it, b1, b2⟩ := tms_ok (show t ∈ tms y z by rw [sp_]; simp)
    have hq16 := Evl.ex_t e16 hq15
    have nxt : ∀ (g : Bool) (H17 : Hp) (u9 u10 u11 u12 u13 u14 : Option V), g = (done.all (goodT y z d) && goodT y z d t) → Ex H16 H17 → ∃ done s9 s10 s11 s12 s13 s14, tms y z = done ++ l ∧
        [some (.ref a), some (.ref r), some wv, some (.str (ruleS d)), some (.str kind), some (.ref p9), some (.ref pt), some (.ref q11), some (.bl g), u9, u10, u11, u12, u13, u14] =
        [some (.ref a), some (.ref r), some wv, some (.str (ruleS d)), some (.str kind), some (.ref p9), some (.ref pt), some (.ref q11), some (.bl (done.all (goodT y z d))), s9, s10, s11, s12, s13, s14] ∧ Ex H15 H17 := by
      intro g H17 u9 u10 u11 u12 u13 u14 eg e17
      refine ⟨done ++ [t], u9, u10, u11, u12, u13, u14, by rw [sp_, List.append_assoc]; rfl, ?_, e16.trans e17⟩
      rw [all_app, eg]
    obtain ⟨xa, rfl, hxa⟩ := id ht
    have hw16 := hw15.tr (TrT.of e16)
    have hv16 := hv15.tr (TrT.of e16)
    rcases sh_cat d with ⟨c, s, sh, st⟩ | ⟨c, rest, sh, lr⟩ | ⟨c, rest, sh, lr⟩
    · rw [sh] at hq16
      walk_at "gg"
      refine g_lenT hq16 ?_
      walk_at "gg"
      refine g_lenT hq16 ?_
      walk_at "gg"
      refine if_b (fun c1 => ?_) (fun c1 => ?_)
      · walk_at "gg"
        rw [st]
        cases hrd : isRd d with
        | false =>
          have eo : oneIt d t = .t t := by unfold oneIt; rw [hrd]; rfl
          have po := okOne (r := d) c it b1 b2
          rw [eo] at po
          have eg : goodT y z d t = fitsI y z d [.t t] := by unfold goodT; rw [c]; show fitsI y z d [oneIt d t] = _; rw [eo]
          walk_at "gg"
          refine g_newT (by simp) fun p17 H17 n17 e17 h17 => ?_
          walk_at "gg"
          refine ⟨_, _, y, z, d, p17, _, [.t t], rfl, hw16.tr (TrT.of e17), hv16.tr (TrT.of e17), hz, SqT.of h17, .cons (ht.tr (TrT.of e17)) .nil, po, fun H18 e18 => ?_⟩
          walk_at "gg"
          exact nxt _ _ _ _ _ _ _ _ (by rw [c1, eg, Bool.true_and]) (e17.trans e18)
        | true =>
          have eo : oneIt d t = .i (t.1 + 2) := by unfold oneIt; rw [hrd]; rfl
          have po := okOne (r := d) c it b1 b2
          rw [eo] at po
          have eg : goodT y z d t = fitsI y z d [.i (t.1 + 2)] := by unfold goodT; rw [c]; show fitsI y z d [oneIt d t] = _; rw [eo]
          walk_at "gg"
          refine g_newT (by simp) fun p17 H17 n17 e17 h17 => ?_
          walk_at "gg"
          refine ⟨_, _, y, z, d, p17, _, [.i (t.1 + 2)], rfl, hw16.tr (TrT.of e17), hv16.tr (TrT.of e17), hz, SqT.of h17, .cons rfl .nil, po, fun H18 e18 => ?_⟩
          walk_at "gg"
          exact nxt _ _ _ _ _ _ _ _ (by rw [c1, eg, Bool.true_and]) (e17.trans e18)
      · walk_at "gg"
        exact nxt _ _ _ _ _ _ _ _ (by rw [c1]; rfl) (Evl.Ex.refl _)
    · have hk : (List.map V.str ((("time" : Str) :: ("duration" : Str) :: rest))).length = (shapeR d).length := by rw [sh, List.length_map]
      have hk3 : (shapeR d).length ≤ 3 := shape_few d
      have eg1 : goodT y z d t = Ds.all fun dd => Es.all fun e => fitsI y z d (([.t t, .i dd, .i e] : List It).take (shapeR d).length) := by unfold goodT; rw [c] <;> rfl
      rw [sh] at hq16
      walk_at "gg"
      refine g_lenT hq16 ?_
      walk_at "gg"
      have h2 : decide ((1 : Int) < ((List.map V.str ((("time" : Str) :: ("duration" : Str) :: rest))).length : Int)) = true := decide_eq_true (by simp only [List.length_map, List.length_cons]; omega)
      refine if_t h2 ?_
      walk_at "gg"
      refine g_ixT hq16 (v := .str "duration") (atI_of (by omega) rfl) ?_
      walk_at "gg"
      refine g_newL (by simp) fun l17 H17 n17 e17 h17 => ?_
      refine g_forL (SqL.of h17) (ds := Ds) (pd_intsV Ds) (F := fun _ x j => x = V.int j) (fun l2 σ2 H2 => ∃ done2 u11 u12 u13 u14, Ds = done2 ++ l2 ∧
          σ2 = [some (.ref a), some (.ref r), some wv, some (.str (ruleS d)), some (.str kind), some (.ref p9), some (.ref pt), some (.ref q11), some (.bl (done.all (goodT y z d) && done2.all fun dd => Es.all fun e => fitsI y z d (([.t t, .i dd, .i e] : List It).take (shapeR d).length))), s9, some (.ref xa), u11, u12, u13, u14] ∧ Ex H17 H2)
        ⟨[], s11, s12, s13, s14, rfl, by rw [List.all_nil, Bool.and_true]; rfl, Evl.Ex.refl _⟩ ?_ ?_ ?_
      · rintro l2 σ2 H2 ⟨_, _, _, _, _, _, _, e⟩
        exact ⟨SqL.of (e _ _ h17), fun _ _ h => h⟩
      · rintro dd l2 x σ2 H18 ⟨done2, u11, u12, u13, u14, sp2, rfl, e18⟩ rfl
        have dl := ds_lim (show dd ∈ Ds by rw [sp2]; simp)
        have e1618 := e17.trans e18
        walk_at "gg"
        refine if_b (fun c1 => ?_) (fun c1 => ?_)
        · walk_at "gg"
          refine g_newL (by simp) fun l19 H19 n19 e19 h19 => ?_
          have e1619 := e1618.trans e19
          refine g_lcL (F := fun _ x j => x = V.int j ∧ j ∈ Es) (ds := Es) (SqL.of h19) (pd_intsM Es) (by decide) (fun e => !fitsI y z d (([.t t, .i dd, .i e] : List It).take (shapeR d).length)) (fun e => V.int e) (fun _ _ _ _ h => h) ?_ ?_
          · rintro e x H20 e20 ⟨rfl, el⟩ R S hR hS
            · have elm := es_lim el
              have t20 := TrT.of (K := K) (e1619.trans e20)
              walk_at "gg"
              refine ⟨rfl, ?_⟩
              walk_at "gg"
              refine g_sliceHi ?_
              walk_at "gg"
              refine g_newT (by simp) fun p21 H21 n21 e21 h21 => ?_
              walk_at "gg"
              refine g_lenT (Evl.ex_t ((e1619.trans e20).trans e21) hq16) ?_
              rw [hk]
              refine ⟨_, rfl, ?_⟩
              refine g_slA (SqT.of h21) (by show _ ≤ 3; exact hk3) fun p22 H22 e22 h22 => ?_
              walk_at "gg"
              have t22 := TrT.of (K := K) (((e1619.trans e20).trans e21).trans e22)
              refine ⟨_, _, y, z, d, p22, _, ([.t t, .i dd, .i e] : List It).take (shapeR d).length, rfl, hw16.tr t22, hv16.tr t22, hz, h22, pd_take _ (.cons (ht.tr t22) (.cons rfl (.cons rfl .nil))), okMoved c it b1 b2 dl.1 dl.2 elm.1 elm.2, fun H23 e23 => ?_⟩
              walk_at "gg"
              refine if_b (fun c3 => ?_) (fun c3 => ?_)
              · walk_at "gg"
                exact hS c3 _ ((e21.trans e22).trans e23)
              · exact hR c3 _ ((e21.trans e22).trans e23)
          · intro D2 H20 n20 e20 h20
            walk_at "gg"
            refine g_newL (by simp) fun l21 H21 n21 e21 h21 => ?_
            refine g_eqNil (e21 _ _ h20) h21 ?_
            rw [emp_all]
            walk_at "gg"
            refine ⟨done2 ++ [dd], some (.int dd), u12, u13, u14, by rw [sp2, List.append_assoc]; rfl, ?_, ((e18.trans e19).trans e20).trans e21⟩
            rw [all_app, ← Bool.and_assoc, c1, Bool.true_and] <;> rfl
        · walk_at "gg"
          refine ⟨done2 ++ [dd], some (.int dd), u12, u13, u14, by rw [sp2, List.append_assoc]; rfl, ?_, e18⟩
          rw [all_app, ← Bool.and_assoc, c1, Bool.false_and] <;> rfl
      · rintro σ2 H18 ⟨done2, u11, u12, u13, u14, sp2, rfl, e18⟩
        rw [List.append_nil] at sp2
        subst sp2
        walk_at "gg"
        exact nxt _ _ _ _ _ _ _ _ (by rw [eg1]) (e17.trans e18)
    · have hk : (List.map V.str ((("time" : Str) :: ("time" : Str) :: rest))).length = (shapeR d).length := by rw [sh, List.length_map]
      have hk3 : (shapeR d).length ≤ 3 := shape_few d
      have eg1 : goodT y z d t = (tms y z).all fun u => Fs.all fun e => fitsI y z d (([.t t, .t u, .i e] : List It).take (shapeR d).length) := by unfold goodT; rw [c] <;> rfl
      rw [sh] at hq16
      walk_at "gg"
      refine g_lenT hq16 ?_
      walk_at "gg"
      have h2 : decide ((1 : Int) < ((List.map V.str ((("time" : Str) :: ("time" : Str) :: rest))).length : Int)) = true := decide_eq_true (by simp only [List.length_map, List.length_cons]; omega)
      refine if_t h2 ?_
      walk_at "gg"
      refine g_ixT hq16 (v := .str "time") (atI_of (by omega) rfl) ?_
      walk_at "gg"
      refine g_lenT hq16 ?_
      walk_at "gg"
      refine if_t h2 ?_
      walk_at "gg"
      refine g_forL (SqL.of (e16 _ _ hpt)) (PVs.tr (TrT.of e16) hxs) (F := PV K) (fun l2 σ2 H2 => ∃ done2 u11 u12 u13 u14, tms y z = done2 ++ l2 ∧
          σ2 = [some (.ref a), some (.ref r), some wv, some (.str (ruleS d)), some (.str kind), some (.ref p9), some (.ref pt), some (.ref q11), some (.bl (done.all (goodT y z d) && done2.all fun u => Fs.all fun e => fitsI y z d (([.t t, .t u, .i e] : List It).take (shapeR d).length))), s9, some (.ref xa), u11, u12, u13, u14] ∧ Ex H16 H2)
        ⟨[], s11, s12, s13, s14, rfl, by rw [List.all_nil, Bool.and_true]; rfl, Evl.Ex.refl _⟩ ?_ ?_ ?_
      · rintro l2 σ2 H2 ⟨_, _, _, _, _, _, _, e⟩
        exact ⟨SqL.of (e _ _ (e16 _ _ hpt)), fun _ _ h => h.tr (TrT.of e)⟩
      · rintro u l2 x2 σ2 H18 ⟨done2, u11, u12, u13, u14, sp2, rfl, e18⟩ hu
        obtain ⟨iu, b3, b4⟩ := tms_ok (show u ∈ tms y z by rw [sp2]; simp)
        have e1618 := e18
        walk_at "gg"
        refine if_b (fun c1 => ?_) (fun c1 => ?_)
        · walk_at "gg"
          refine g_newL (by simp) fun l19 H19 n19 e19 h19 => ?_
          have e1619 := e1618.trans e19
          refine g_lcL (F := fun _ x j => x = V.int j ∧ j ∈ Fs) (ds := Fs) (SqL.of h19) (pd_intsM Fs) (by decide) (fun e => !fitsI y z d (([.t t, .t u, .i e] : List It).take (shapeR d).length)) (fun e => V.int e) (fun _ _ _ _ h => h) ?_ ?_
          · rintro e x H20 e20 ⟨rfl, el⟩ R S hR hS
            · have elm := fs_lim el
              have t20 := TrT.of (K := K) (e1619.trans e20)
              walk_at "gg"
              refine ⟨rfl, ?_⟩
              walk_at "gg"
              refine g_sliceHi ?_
              walk_at "gg"
              refine g_newT (by simp) fun p21 H21 n21 e21 h21 => ?_
              walk_at "gg"
              refine g_lenT (Evl.ex_t ((e1619.trans e20).trans e21) hq16) ?_
              rw [hk]
              refine ⟨_, rfl, ?_⟩
              refine g_slA (SqT.of h21) (by show _ ≤ 3; exact hk3) fun p22 H22 e22 h22 => ?_
              walk_at "gg"
              have t22 := TrT.of (K := K) (((e1619.trans e20).trans e21).trans e22)
              refine ⟨_, _, y, z, d, p22, _, ([.t t, .t u, .i e] : List It).take (shapeR d).length, rfl, hw16.tr t22, hv16.tr t22, hz, h22, pd_take _ (.cons (ht.tr t22) (.cons (hu.tr (TrT.of ((((e19.trans e20).trans e21).trans e22)))) (.cons rfl .nil))), okTwo c it b1 b2 iu b3 b4 elm.1 elm.2, fun H23 e23 => ?_⟩
              walk_at "gg"
              refine if_b (fun c3 => ?_) (fun c3 => ?_)
              · walk_at "gg"
                exact hS c3 _ ((e21.trans e22).trans e23)
              · exact hR c3 _ ((e21.trans e22).trans e23)
          · intro D2 H20 n20 e20 h20
            walk_at "gg"
            refine g_newL (by simp) fun l21 H21 n21 e21 h21 => ?_
            refine g_eqNil (e21 _ _ h20) h21 ?_
            rw [emp_all]
            walk_at "gg"
            refine ⟨done2 ++ [u], u11, some x2, u13, u14, by rw [sp2, List.append_assoc]; rfl, ?_, ((e18.trans e19).trans e20).trans e21⟩
            rw [all_app, ← Bool.and_assoc, c1, Bool.true_and] <;> rfl
        · walk_at "gg"
          refine ⟨done2 ++ [u], u11, some x2, u13, u14, by rw [sp2, List.append_assoc]; rfl, ?_, e18⟩
          rw [all_app, ← Bool.and_assoc, c1, Bool.false_and] <;> rfl
      · rintro σ2 H18 ⟨done2, u11, u12, u13, u14, sp2, rfl, e18⟩
        rw [List.append_nil] at sp2
        rw [← sp2]
        walk_at "gg"
        exact nxt _ _ _ _ _ _ _ _ (by rw [eg1]) e18
  · rintro σ' H16 ⟨done, s9, s10, s11, s12, s13, s14, sp_, rfl, e16⟩
    rw [List.append_nil] at sp_
    rw [← sp_]
    obtain ⟨s, rest, sh, si⟩ := rd_word d
    have hq16 := Evl.ex_t e16 hq15
    rw [sh] at hq16
    have hw16 := hw15.tr (TrT.of e16)
    have hv16 := hv15.tr (TrT.of e16)
    have tail : ∀ (H17 : Hp) (g : Bool) (u9 u10 u11 u12 u13 u14 : Option V), Ex H16 H17 → g = fin y z d →
        tRet (tCall (sp_law_alike K 2) [] E0 (tCons (tCall (sp_holds K) [] E0 (tCons (tVar 2) (tCons (tVar 4) (tCons (tVar 3) tNil)))) (tCons (tVar 8) tNil))) { nx := fun _ H' => Q .non H', rt := Q }
          [some (.ref a), some (.ref r), some wv, some (.str (ruleS d)), some (.str kind), some (.ref p9), some (.ref pt), some (.ref q11), some (.bl g), u9, u10, u11, u12, u13, u14] H17 := by
      intro H17 g u9 u10 u11 u12 u13 u14 e17 eg
      rw [← ez, fin_is hk] at eg
      walk_at "gg"
      refine ⟨_, y, kind, d, rfl, hw16.tr (TrT.of e17), by unfold isKind; rcases hk with rfl | rfl <;> simp, fun H18 e18 => ?_⟩
      walk_at "gg"
      rw [eg]
      exact ⟨_, _, .bool (holdsB y kind d), rfl, .bl _, .bl _, rfl, fun H19 e19 => k _⟩
    walk_at "gg"
    refine g_ixT hq16 (v := .str s) (atI_of (by omega) rfl) ?_
    walk_at "gg"
    refine g_newL (by simp) fun l17 H17 n17 e17 h17 => ?_
    refine g_inL (SqL.of h17) rfl rfl ?_
    rw [si]
    walk_at "gg"
    cases hrd : isRd d with
    | false =>
      refine if_ff (g_next ?_)
      exact tail _ _ _ _ _ _ _ _ e17 (by unfold fin; rw [hrd] <;> rfl)
    | true =>
      walk_at "gg"
      refine g_lcRng2 ?_
      walk_at "gg"
      refine g_lcR2 (by omega) (by omega) (by omega) (by omega) (fun e => !fitsI y z d [.i e]) (fun e => V.int e) ?_ ?_
      · intro e H18 e18 l1 l2 R S hR hS
        walk_at "gg"
        refine ⟨rfl, ?_⟩
        walk_at "gg"
        refine g_newT (by simp) fun p19 H19 n19 e19 h19 => ?_
        walk_at "gg"
        have t19 := TrT.of (K := K) ((e17.trans e18).trans e19)
        refine ⟨_, _, y, z, d, p19, _, [.i e], rfl, hw16.tr t19, hv16.tr t19, hz, SqT.of h19, .cons rfl .nil, okRd hrd (by omega) (by omega), fun H20 e20 => ?_⟩
        walk_at "gg"
        refine if_b (fun c3 => ?_) (fun c3 => ?_)
        · walk_at "gg"
          exact hS c3 _ (e19.trans e20)
        · exact hR c3 _ (e19.trans e20)
      · intro D2 H18 n18 e18 h18
        walk_at "gg"
        refine g_newL (by simp) fun l19 H19 n19 e19 h19 => ?_
        refine g_eqNil (e19 _ _ h18) h19 ?_
        rw [emp_all]
        refine g_name ?_
        exact tail _ _ _ _ _ _ _ _ ((e17.trans e18).trans e19) (by unfold fin; rw [hrd] <;> rfl)
end
end TH
set_option maxHeartbeats 0
namespace TH
open PySem PySem.Spec PyProof.Rows L2
def d_arguments_in_gap : He.DefD := ⟨("arguments_in_gap", none), "arguments_in_gap", "arguments_in_gap", defArgs s_arguments_in_gap, defBody s_arguments_in_gap, defScope s_arguments_in_gap, [], []⟩
def d_arguments_in_fold : He.DefD := ⟨("arguments_in_fold", none), "arguments_in_fold", "arguments_in_fold", defArgs s_arguments_in_fold, defBody s_arguments_in_fold, defScope s_arguments_in_fold, [], []⟩
def d_arguments_in_fold_for_wall_sums : He.DefD := ⟨("_arguments_in_fold_for_wall_sums", none), "_arguments_in_fold_for_wall_sums", "_arguments_in_fold_for_wall_sums", defArgs s_arguments_in_fold_for_wall_sums, defBody s_arguments_in_fold_for_wall_sums, defScope s_arguments_in_fold_for_wall_sums, [], []⟩
def d_arguments_in_fold_for_elapsed_sums : He.DefD := ⟨("_arguments_in_fold_for_elapsed_sums", none), "_arguments_in_fold_for_elapsed_sums", "_arguments_in_fold_for_elapsed_sums", defArgs s_arguments_in_fold_for_elapsed_sums, defBody s_arguments_in_fold_for_elapsed_sums, defScope s_arguments_in_fold_for_elapsed_sums, [], []⟩
def d_holds_over_gaps : He.DefD := ⟨("holds_over_gaps", none), "holds_over_gaps", "holds_over_gaps", defArgs s_holds_over_gaps, defBody s_holds_over_gaps, defScope s_holds_over_gaps, [], []⟩
def d_holds_over_folds : He.DefD := ⟨("holds_over_folds", none), "holds_over_folds", "holds_over_folds", defArgs s_holds_over_folds, defBody s_holds_over_folds, defScope s_holds_over_folds, [], []⟩
def d_is_tuple_of : He.DefD := ⟨("is_tuple_of", none), "is_tuple_of", "is_tuple_of", defArgs s_is_tuple_of, defBody s_is_tuple_of, defScope s_is_tuple_of, [], []⟩
def d_is_library : He.DefD := ⟨("is_library", none), "is_library", "is_library", defArgs s_is_library, defBody s_is_library, defScope s_is_library, [], []⟩
def d_check_library : He.DefD := ⟨("check_library", none), "check_library", "check_library", defArgs s_check_library, defBody s_check_library, defScope s_check_library, [], []⟩
def d_is_rule : He.DefD := ⟨("is_rule", none), "is_rule", "is_rule", defArgs s_is_rule, defBody s_is_rule, defScope s_is_rule, [], []⟩
def d_check_rule : He.DefD := ⟨("check_rule", none), "check_rule", "check_rule", defArgs s_check_rule, defBody s_check_rule, defScope s_check_rule, [], []⟩
def d_check_kind : He.DefD := ⟨("check_kind", none), "check_kind", "check_kind", defArgs s_check_kind, defBody s_check_kind, defScope s_check_kind, [], []⟩
def d_holds : He.DefD := ⟨("holds", none), "holds", "holds", defArgs s_holds, defBody s_holds, defScope s_holds, [], []⟩
def d_counterexample : He.DefD := ⟨("counterexample", none), "counterexample", "counterexample", defArgs s_counterexample, defBody s_counterexample, defScope s_counterexample, [], []⟩
def d_law_taken : He.DefD := ⟨("_law_taken", none), "_law_taken", "_law_taken", defArgs s_law_taken, defBody s_law_taken, defScope s_law_taken, [], []⟩
def d_law_pick : He.DefD := ⟨("_law_pick", none), "_law_pick", "_law_pick", defArgs s_law_pick, defBody s_law_pick, defScope s_law_pick, [], []⟩
def d_law_alike : He.DefD := ⟨("_law_alike", none), "_law_alike", "_law_alike", defArgs s_law_alike, defBody s_law_alike, defScope s_law_alike, [], []⟩
def d_law_library : He.DefD := ⟨("_law_library", none), "_law_library", "_law_library", defArgs s_law_library, defBody s_law_library, defScope s_law_library, [], []⟩
def d_law_offset : He.DefD := ⟨("_law_offset", none), "_law_offset", "_law_offset", defArgs s_law_offset, defBody s_law_offset, defScope s_law_offset, [], []⟩
def d_law_instants : He.DefD := ⟨("_law_instants", none), "_law_instants", "_law_instants", defArgs s_law_instants, defBody s_law_instants, defScope s_law_instants, [], []⟩
def d_law_before : He.DefD := ⟨("_law_before", none), "_law_before", "_law_before", defArgs s_law_before, defBody s_law_before, defScope s_law_before, [], []⟩
def d_law_times : He.DefD := ⟨("_law_times", none), "_law_times", "_law_times", defArgs s_law_times, defBody s_law_times, defScope s_law_times, [], []⟩
def d_law_instant : He.DefD := ⟨("_law_instant", none), "_law_instant", "_law_instant", defArgs s_law_instant, defBody s_law_instant, defScope s_law_instant, [], []⟩
def d_law_at : He.DefD := ⟨("_law_at", none), "_law_at", "_law_at", defArgs s_law_at, defBody s_law_at, defScope s_law_at, [], []⟩
def d_law_read : He.DefD := ⟨("_law_read", none), "_law_read", "_law_read", defArgs s_law_read, defBody s_law_read, defScope s_law_read, [], []⟩
def d_law_add : He.DefD := ⟨("_law_add", none), "_law_add", "_law_add", defArgs s_law_add, defBody s_law_add, defScope s_law_add, [], []⟩
def d_law_less : He.DefD := ⟨("_law_less", none), "_law_less", "_law_less", defArgs s_law_less, defBody s_law_less, defScope s_law_less, [], []⟩
def d_law_order : He.DefD := ⟨("_law_order", none), "_law_order", "_law_order", defArgs s_law_order, defBody s_law_order, defScope s_law_order, [], []⟩
def d_law_rules : He.DefD := ⟨("_law_rules", none), "_law_rules", "_law_rules", defArgs s_law_rules, defBody s_law_rules, defScope s_law_rules, [], []⟩
def d_law_shape : He.DefD := ⟨("_law_shape", none), "_law_shape", "_law_shape", defArgs s_law_shape, defBody s_law_shape, defScope s_law_shape, [], []⟩
def d_law_one : He.DefD := ⟨("_law_one", none), "_law_one", "_law_one", defArgs s_law_one, defBody s_law_one, defScope s_law_one, [], []⟩
def d_law_moved : He.DefD := ⟨("_law_moved", none), "_law_moved", "_law_moved", defArgs s_law_moved, defBody s_law_moved, defScope s_law_moved, [], []⟩
def d_law_two : He.DefD := ⟨("_law_two", none), "_law_two", "_law_two", defArgs s_law_two, defBody s_law_two, defScope s_law_two, [], []⟩
def d_law_fits : He.DefD := ⟨("_law_fits", none), "_law_fits", "_law_fits", defArgs s_law_fits, defBody s_law_fits, defScope s_law_fits, [], []⟩
def d_law : He.DefD := ⟨("law", none), "law", "law", defArgs s_law, defBody s_law, defScope s_law, [], []⟩
def fn : List He.DefD := [d_arguments_in_gap, d_arguments_in_fold, d_arguments_in_fold_for_wall_sums, d_arguments_in_fold_for_elapsed_sums, d_holds_over_gaps, d_holds_over_folds, d_is_tuple_of, d_is_library, d_check_library, d_is_rule, d_check_rule, d_check_kind, d_holds, d_counterexample, d_law_taken, d_law_pick, d_law_alike, d_law_library, d_law_offset, d_law_instants, d_law_before, d_law_times, d_law_instant, d_law_at, d_law_read, d_law_add, d_law_less, d_law_order, d_law_rules, d_law_shape, d_law_one, d_law_moved, d_law_two, d_law_fits, d_law]
def fa : List He.Fa := [.glo "arguments_in_gap", .glo "arguments_in_fold", .glo "_arguments_in_fold_for_wall_sums", .glo "_arguments_in_fold_for_elapsed_sums", .glo "holds_over_gaps", .glo "holds_over_folds", .glo "is_tuple_of", .glo "is_library", .glo "check_library", .glo "is_rule", .glo "check_rule", .glo "check_kind", .glo "holds", .glo "counterexample", .glo "_law_taken", .glo "_law_pick", .glo "_law_alike", .glo "_law_library", .glo "_law_offset", .glo "_law_instants", .glo "_law_before", .glo "_law_times", .glo "_law_instant", .glo "_law_at", .glo "_law_read", .glo "_law_add", .glo "_law_less", .glo "_law_order", .glo "_law_rules", .glo "_law_shape", .glo "_law_one", .glo "_law_moved", .glo "_law_two", .glo "_law_fits", .glo "law", .free "isinstance", .free "tuple", .free "len", .free "str", .free "int", .free "list", .free "bool", .free "range", .free "max", .glo "IN_GAP", .glo "IN_FOLD", .glo "SUMS", .glo "ORDERS", .glo "GAPS", .glo "FOLDS", .glo "SHAPES", .glo "KINDS", .glo "GAP_ZONE", .glo "FOLD_ZONE"]
abbrev R : PySem.W.OpenRow := PySem.W.OpenLaw.row PySem.Challenge.rw_timeheld_k02_whole_one_change
def ts : List He.Tab := [(gaF "IN_GAP", ["to universal and back", "every reading", "some reading", "sum of durations", "elapsed time", "sums told", "difference recovers", "order by difference", "one instant means equal", "one instant, one time", "order of instants"]), (gaF "IN_FOLD", ["every reading", "some reading", "sums told", "difference recovers", "order by difference", "equal means one instant", "order of instants"]), (gaF "SHAPES", ["from universal and back", "to universal and back", "every reading", "some reading", "there and back", "sum of durations", "elapsed time", "same clock", "later", "sums told", "difference recovers", "order by difference", "equal means one instant", "one instant means equal", "one instant, one time", "order of instants", "order kept", "equal sums"])]
def ps : List (PySem.W.Frag → Bool) := [valsD (gaF "IN_GAP") [(("to universal and back" : Str), .adr (dctAt (gaF "IN_GAP") "to universal and back")), (("every reading" : Str), .adr (dctAt (gaF "IN_GAP") "every reading")), (("some reading" : Str), .adr (dctAt (gaF "IN_GAP") "some reading")), (("sum of durations" : Str), .adr (dctAt (gaF "IN_GAP") "sum of durations")), (("elapsed time" : Str), .adr (dctAt (gaF "IN_GAP") "elapsed time")), (("sums told" : Str), .adr (dctAt (gaF "IN_GAP") "sums told")), (("difference recovers" : Str), .adr (dctAt (gaF "IN_GAP") "difference recovers")), (("order by difference" : Str), .adr (dctAt (gaF "IN_GAP") "order by difference")), (("one instant means equal" : Str), .adr (dctAt (gaF "IN_GAP") "one instant means equal")), (("one instant, one time" : Str), .adr (dctAt (gaF "IN_GAP") "one instant, one time")), (("order of instants" : Str), .adr (dctAt (gaF "IN_GAP") "order of instants"))],
  tupD (itmAt (dctAt (gaF "IN_GAP") "to universal and back") 0) [.int 0, .int 0],
  tupD (dctAt (gaF "IN_GAP") "to universal and back") [.adr (itmAt (dctAt (gaF "IN_GAP") "to universal and back") 0)],
  tupD (dctAt (gaF "IN_GAP") "every reading") [.int 0],
  tupD (dctAt (gaF "IN_GAP") "some reading") [.int 0],
  tupD (itmAt (dctAt (gaF "IN_GAP") "sum of durations") 0) [.int (-1), .int 0],
  tupD (dctAt (gaF "IN_GAP") "sum of durations") [.adr (itmAt (dctAt (gaF "IN_GAP") "sum of durations") 0), .int 1, .int 2],
  tupD (itmAt (dctAt (gaF "IN_GAP") "elapsed time") 0) [.int (-1), .int 0],
  tupD (dctAt (gaF "IN_GAP") "elapsed time") [.adr (itmAt (dctAt (gaF "IN_GAP") "elapsed time") 0), .int 3],
  tupD (itmAt (dctAt (gaF "IN_GAP") "sums told") 0) [.int (-1), .int 0],
  tupD (dctAt (gaF "IN_GAP") "sums told") [.adr (itmAt (dctAt (gaF "IN_GAP") "sums told") 0), .int 1],
  tupD (itmAt (dctAt (gaF "IN_GAP") "difference recovers") 0) [.int (-1), .int 0],
  tupD (itmAt (dctAt (gaF "IN_GAP") "difference recovers") 1) [.int 0, .int 0],
  tupD (dctAt (gaF "IN_GAP") "difference recovers") [.adr (itmAt (dctAt (gaF "IN_GAP") "difference recovers") 0), .adr (itmAt (dctAt (gaF "IN_GAP") "difference recovers") 1)],
  tupD (itmAt (dctAt (gaF "IN_GAP") "order by difference") 0) [.int 0, .int 0],
  tupD (itmAt (dctAt (gaF "IN_GAP") "order by difference") 1) [.int 2, .int 0],
  tupD (dctAt (gaF "IN_GAP") "order by difference") [.adr (itmAt (dctAt (gaF "IN_GAP") "order by difference") 0), .adr (itmAt (dctAt (gaF "IN_GAP") "order by difference") 1)],
  tupD (itmAt (dctAt (gaF "IN_GAP") "one instant means equal") 0) [.int 0, .int 0],
  tupD (itmAt (dctAt (gaF "IN_GAP") "one instant means equal") 1) [.int 2, .int 0],
  tupD (dctAt (gaF "IN_GAP") "one instant means equal") [.adr (itmAt (dctAt (gaF "IN_GAP") "one instant means equal") 0), .adr (itmAt (dctAt (gaF "IN_GAP") "one instant means equal") 1)],
  tupD (itmAt (dctAt (gaF "IN_GAP") "one instant, one time") 0) [.int 0, .int 0],
  tupD (itmAt (dctAt (gaF "IN_GAP") "one instant, one time") 1) [.int 2, .int 0],
  tupD (dctAt (gaF "IN_GAP") "one instant, one time") [.adr (itmAt (dctAt (gaF "IN_GAP") "one instant, one time") 0), .adr (itmAt (dctAt (gaF "IN_GAP") "one instant, one time") 1)],
  tupD (itmAt (dctAt (gaF "IN_GAP") "order of instants") 0) [.int 0, .int 0],
  tupD (itmAt (dctAt (gaF "IN_GAP") "order of instants") 1) [.int 2, .int 0],
  tupD (dctAt (gaF "IN_GAP") "order of instants") [.adr (itmAt (dctAt (gaF "IN_GAP") "order of instants") 0), .adr (itmAt (dctAt (gaF "IN_GAP") "order of instants") 1)],
  nonB (gaF "IN_GAP") "from universal and back",
  nonB (gaF "IN_GAP") "there and back",
  nonB (gaF "IN_GAP") "same clock",
  nonB (gaF "IN_GAP") "later",
  nonB (gaF "IN_GAP") "equal means one instant",
  nonB (gaF "IN_GAP") "order kept",
  nonB (gaF "IN_GAP") "equal sums",
  valsD (gaF "IN_FOLD") [(("every reading" : Str), .adr (dctAt (gaF "IN_FOLD") "every reading")), (("some reading" : Str), .adr (dctAt (gaF "IN_FOLD") "some reading")), (("sums told" : Str), .adr (dctAt (gaF "IN_FOLD") "sums told")), (("difference recovers" : Str), .adr (dctAt (gaF "IN_FOLD") "difference recovers")), (("order by difference" : Str), .adr (dctAt (gaF "IN_FOLD") "order by difference")), (("equal means one instant" : Str), .adr (dctAt (gaF "IN_FOLD") "equal means one instant")), (("order of instants" : Str), .adr (dctAt (gaF "IN_FOLD") "order of instants"))],
  tupD (dctAt (gaF "IN_FOLD") "every reading") [.int (-1)],
  tupD (dctAt (gaF "IN_FOLD") "some reading") [.int (-1)],
  tupD (itmAt (dctAt (gaF "IN_FOLD") "sums told") 0) [.int (-3), .int 0],
  tupD (dctAt (gaF "IN_FOLD") "sums told") [.adr (itmAt (dctAt (gaF "IN_FOLD") "sums told") 0), .int 2],
  tupD (itmAt (dctAt (gaF "IN_FOLD") "difference recovers") 0) [.int (-3), .int 0],
  tupD (itmAt (dctAt (gaF "IN_FOLD") "difference recovers") 1) [.int (-1), .int 1],
  tupD (dctAt (gaF "IN_FOLD") "difference recovers") [.adr (itmAt (dctAt (gaF "IN_FOLD") "difference recovers") 0), .adr (itmAt (dctAt (gaF "IN_FOLD") "difference recovers") 1)],
  tupD (itmAt (dctAt (gaF "IN_FOLD") "order by difference") 0) [.int (-1), .int 0],
  tupD (itmAt (dctAt (gaF "IN_FOLD") "order by difference") 1) [.int (-1), .int 1],
  tupD (dctAt (gaF "IN_FOLD") "order by difference") [.adr (itmAt (dctAt (gaF "IN_FOLD") "order by difference") 0), .adr (itmAt (dctAt (gaF "IN_FOLD") "order by difference") 1)],
  tupD (itmAt (dctAt (gaF "IN_FOLD") "equal means one instant") 0) [.int (-1), .int 0],
  tupD (itmAt (dctAt (gaF "IN_FOLD") "equal means one instant") 1) [.int (-1), .int 1],
  tupD (dctAt (gaF "IN_FOLD") "equal means one instant") [.adr (itmAt (dctAt (gaF "IN_FOLD") "equal means one instant") 0), .adr (itmAt (dctAt (gaF "IN_FOLD") "equal means one instant") 1)],
  tupD (itmAt (dctAt (gaF "IN_FOLD") "order of instants") 0) [.int (-1), .int 0],
  tupD (itmAt (dctAt (gaF "IN_FOLD") "order of instants") 1) [.int (-1), .int 1],
  tupD (dctAt (gaF "IN_FOLD") "order of instants") [.adr (itmAt (dctAt (gaF "IN_FOLD") "order of instants") 0), .adr (itmAt (dctAt (gaF "IN_FOLD") "order of instants") 1)],
  nonB (gaF "IN_FOLD") "from universal and back",
  nonB (gaF "IN_FOLD") "to universal and back",
  nonB (gaF "IN_FOLD") "there and back",
  nonB (gaF "IN_FOLD") "sum of durations",
  nonB (gaF "IN_FOLD") "elapsed time",
  nonB (gaF "IN_FOLD") "same clock",
  nonB (gaF "IN_FOLD") "later",
  nonB (gaF "IN_FOLD") "one instant means equal",
  nonB (gaF "IN_FOLD") "one instant, one time",
  nonB (gaF "IN_FOLD") "order kept",
  nonB (gaF "IN_FOLD") "equal sums",
  tupD (gaF "SUMS") [.str "elapsed", .str "wall"],
  tupD (gaF "ORDERS") [.str "elapsed", .str "wall"],
  tupD (gaF "GAPS") [.str "keep", .str "refuse", .str "shift"],
  tupD (gaF "FOLDS") [.str "both", .str "first", .str "refuse", .str "second"],
  valsD (gaF "SHAPES") [(("from universal and back" : Str), .adr (dctAt (gaF "SHAPES") "from universal and back")), (("to universal and back" : Str), .adr (dctAt (gaF "SHAPES") "to universal and back")), (("every reading" : Str), .adr (dctAt (gaF "SHAPES") "every reading")), (("some reading" : Str), .adr (dctAt (gaF "SHAPES") "some reading")), (("there and back" : Str), .adr (dctAt (gaF "SHAPES") "there and back")), (("sum of durations" : Str), .adr (dctAt (gaF "SHAPES") "sum of durations")), (("elapsed time" : Str), .adr (dctAt (gaF "SHAPES") "elapsed time")), (("same clock" : Str), .adr (dctAt (gaF "SHAPES") "same clock")), (("later" : Str), .adr (dctAt (gaF "SHAPES") "later")), (("sums told" : Str), .adr (dctAt (gaF "SHAPES") "sums told")), (("difference recovers" : Str), .adr (dctAt (gaF "SHAPES") "difference recovers")), (("order by difference" : Str), .adr (dctAt (gaF "SHAPES") "order by difference")), (("equal means one instant" : Str), .adr (dctAt (gaF "SHAPES") "equal means one instant")), (("one instant means equal" : Str), .adr (dctAt (gaF "SHAPES") "one instant means equal")), (("one instant, one time" : Str), .adr (dctAt (gaF "SHAPES") "one instant, one time")), (("order of instants" : Str), .adr (dctAt (gaF "SHAPES") "order of instants")), (("order kept" : Str), .adr (dctAt (gaF "SHAPES") "order kept")), (("equal sums" : Str), .adr (dctAt (gaF "SHAPES") "equal sums"))],
  tupD (dctAt (gaF "SHAPES") "from universal and back") [.str "instant"],
  tupD (dctAt (gaF "SHAPES") "to universal and back") [.str "time"],
  tupD (dctAt (gaF "SHAPES") "every reading") [.str "reading"],
  tupD (dctAt (gaF "SHAPES") "some reading") [.str "reading"],
  tupD (dctAt (gaF "SHAPES") "there and back") [.str "time", .str "duration"],
  tupD (dctAt (gaF "SHAPES") "sum of durations") [.str "time", .str "duration", .str "duration"],
  tupD (dctAt (gaF "SHAPES") "elapsed time") [.str "time", .str "duration"],
  tupD (dctAt (gaF "SHAPES") "same clock") [.str "time"],
  tupD (dctAt (gaF "SHAPES") "later") [.str "time", .str "duration"],
  tupD (dctAt (gaF "SHAPES") "sums told") [.str "time", .str "duration"],
  tupD (dctAt (gaF "SHAPES") "difference recovers") [.str "time", .str "time"],
  tupD (dctAt (gaF "SHAPES") "order by difference") [.str "time", .str "time"],
  tupD (dctAt (gaF "SHAPES") "equal means one instant") [.str "time", .str "time"],
  tupD (dctAt (gaF "SHAPES") "one instant means equal") [.str "time", .str "time"],
  tupD (dctAt (gaF "SHAPES") "one instant, one time") [.str "time", .str "time"],
  tupD (dctAt (gaF "SHAPES") "order of instants") [.str "time", .str "time"],
  tupD (dctAt (gaF "SHAPES") "order kept") [.str "time", .str "time", .str "duration"],
  tupD (dctAt (gaF "SHAPES") "equal sums") [.str "time", .str "time", .str "duration"],
  tupD (gaF "KINDS") [.str "fixed", .str "skips", .str "repeats", .str "both"],
  tupD (itmAt (itmAt (gaF "GAP_ZONE") 1) 0) [.int 0, .int 2],
  tupD (itmAt (gaF "GAP_ZONE") 1) [.adr (itmAt (itmAt (gaF "GAP_ZONE") 1) 0)],
  tupD (gaF "GAP_ZONE") [.int 0, .adr (itmAt (gaF "GAP_ZONE") 1)],
  tupD (itmAt (itmAt (gaF "FOLD_ZONE") 1) 0) [.int 0, .int (-2)],
  tupD (itmAt (gaF "FOLD_ZONE") 1) [.adr (itmAt (itmAt (gaF "FOLD_ZONE") 1) 0)],
  tupD (gaF "FOLD_ZONE") [.int 0, .adr (itmAt (gaF "FOLD_ZONE") 1)]]
def as_ : List Addr := [3, 6, 17, 20, 21, 47, 68, 75, 80, 85, 90, 95, 151, 152, 153, 154, 155, 162, 169, 170, 196, 203, 204, 211, 218, 225, 232, 239, 244, 251, 256, 261, 266, 273, 280, 287, 294, 301, 308, 313, 320, 327, 334, 341, 348, 355, 360, 67, 74, 79, 84, 89, 94, 150, 161, 168, 195, 202, 210, 217, 224, 231, 238, 243, 250, 255, 260, 265, 272, 279, 286, 293, 300, 307, 312, 319, 326, 333, 340, 347, 354, 359, 16, 15, 19, 18, 23, 22, 24, 25, 27, 26, 29, 28, 31, 30, 34, 32, 33, 37, 35, 36, 40, 38, 39, 43, 41, 42, 46, 44, 45, 48, 49, 51, 50, 54, 52, 53, 57, 55, 56, 60, 58, 59, 63, 61, 62, 171, 172, 173, 174, 175, 176, 177, 178, 179, 180, 181, 182, 183, 184, 185, 186, 187, 189]
def hookL (as : List Addr) (fa : List He.Fa) (fn : List He.DefD) (ts : List He.Tab) (ps : List (PySem.W.Frag → Bool)) : PySem.W.Hook where
  α := AlX
  obs := fun s => obsX fa fn ts ps (He.frG s.heap.get? as)
  val := fun w => valX fn ts w
  says := fun w h => ∃ K : PySem.W.Frag, K.In h ∧ SaysX fa fn ts ps w K
  of := fun _ _ e => ⟨_, He.frG_in, e⟩
  keeps := fun _ _ _ ⟨K, hK, c⟩ k => ⟨K, PySem.W.Frag.In.keeps hK k, c⟩
abbrev hk : PySem.W.Hook := hookL as_ fa fn ts ps
def ob (s : PySem.W.SharedT) : AlX := obsX fa fn ts ps (He.frG (HandSHeadRun.getT s) as_)
theorem ob_eq (s : PySem.W.SharedT) : ob s = hk.obs s.abs := by
  have e : HandSHeadRun.getT s = s.abs.heap.get? := funext (HandSHeadRun.getT_eq s)
  unfold ob
  rw [e]
  rfl
def loose : List PySem.Str := [("GAP_ZONE" : PySem.Str), ("FOLD_ZONE" : PySem.Str), ("IN_GAP" : PySem.Str), ("IN_FOLD" : PySem.Str), ("arguments_in_gap" : PySem.Str), ("arguments_in_fold" : PySem.Str), ("_arguments_in_fold_for_wall_sums" : PySem.Str), ("_arguments_in_fold_for_elapsed_sums" : PySem.Str), ("holds_over_gaps" : PySem.Str), ("holds_over_folds" : PySem.Str), ("TimeError" : PySem.Str), ("BadLibrary" : PySem.Str), ("BadRule" : PySem.Str), ("BadKind" : PySem.Str), ("is_tuple_of" : PySem.Str), ("SUMS" : PySem.Str), ("ORDERS" : PySem.Str), ("GAPS" : PySem.Str), ("FOLDS" : PySem.Str), ("is_library" : PySem.Str), ("check_library" : PySem.Str), ("SHAPES" : PySem.Str), ("is_rule" : PySem.Str), ("check_rule" : PySem.Str), ("KINDS" : PySem.Str), ("check_kind" : PySem.Str), ("holds" : PySem.Str), ("counterexample" : PySem.Str), ("_law_taken" : PySem.Str), ("_law_pick" : PySem.Str), ("_law_alike" : PySem.Str), ("_law_library" : PySem.Str), ("_law_offset" : PySem.Str), ("_law_instants" : PySem.Str), ("_law_before" : PySem.Str), ("_law_times" : PySem.Str), ("_law_instant" : PySem.Str), ("_law_at" : PySem.Str), ("_law_read" : PySem.Str), ("_law_add" : PySem.Str), ("_law_less" : PySem.Str), ("_law_order" : PySem.Str), ("_law_rules" : PySem.Str), ("_law_shape" : PySem.Str), ("_law_one" : PySem.Str), ("_law_moved" : PySem.Str), ("_law_two" : PySem.Str), ("_law_fits" : PySem.Str)]
theorem run0 (w : World) : HandSHeadRun.RunEq R (PySem.W.view R.prog [56]) hk ob 8000 loose (w.withFollow "special-get-raises" false) := by
  intro os
  kernel_rfl
theorem run1 (w : World) : HandSHeadRun.RunEq R (PySem.W.view R.prog [56]) hk ob 8000 loose (w.withFollow "special-get-raises" true) := by
  intro os
  kernel_rfl
theorem run (w : World) : HandSHeadRun.RunEq R (PySem.W.view R.prog [56]) hk ob 8000 loose w := PySem.W.byRow2 "special-get-raises" (P := fun w => HandSHeadRun.RunEq R (PySem.W.view R.prog [56]) hk ob 8000 loose w) run0 run1 w
theorem facts {P : Program} {w : World} {K : PySem.W.Frag} {h : Heap} {mg : Str → Option Value} {f : Addr} (X : K.In h) (G : h.Ns mainGlobals mg) (hfa : mg ("law" : Str) = some (.ref f)) (c : SaysX fa fn ts ps w K) :
    ∃ fd : FuncData, (∀ (s : Shared) (v : Value), BindsTo s fd ⟨[v], []⟩ [("script", v)]) ∧ ∀ base : Heap, K.In base → base.Ns mainGlobals mg → FnOk P w K mg base CX0 8 f fd ["script"] (sp_law K) := by
  obtain ⟨fd0, F0⟩ := c.t.d.def_ 0 (d := d_arguments_in_gap) rfl
  have b0 : Binds K fd0 ["library", "rule"] [] := FunD.bindsN F0 fun _ _ _ _ _ _ us hl => match us, hl with | [_, _], _ => rfl
  obtain ⟨fd1, F1⟩ := c.t.d.def_ 1 (d := d_arguments_in_fold) rfl
  have b1 : Binds K fd1 ["library", "rule"] [] := FunD.bindsN F1 fun _ _ _ _ _ _ us hl => match us, hl with | [_, _], _ => rfl
  obtain ⟨fd2, F2⟩ := c.t.d.def_ 2 (d := d_arguments_in_fold_for_wall_sums) rfl
  have b2 : Binds K fd2 ["fold", "rule"] [] := FunD.bindsN F2 fun _ _ _ _ _ _ us hl => match us, hl with | [_, _], _ => rfl
  obtain ⟨fd3, F3⟩ := c.t.d.def_ 3 (d := d_arguments_in_fold_for_elapsed_sums) rfl
  have b3 : Binds K fd3 ["fold", "rule"] [] := FunD.bindsN F3 fun _ _ _ _ _ _ us hl => match us, hl with | [_, _], _ => rfl
  obtain ⟨fd4, F4⟩ := c.t.d.def_ 4 (d := d_holds_over_gaps) rfl
  have b4 : Binds K fd4 ["library", "rule"] [] := FunD.bindsN F4 fun _ _ _ _ _ _ us hl => match us, hl with | [_, _], _ => rfl
  obtain ⟨fd5, F5⟩ := c.t.d.def_ 5 (d := d_holds_over_folds) rfl
  have b5 : Binds K fd5 ["library", "rule"] [] := FunD.bindsN F5 fun _ _ _ _ _ _ us hl => match us, hl with | [_, _], _ => rfl
  obtain ⟨fd6, F6⟩ := c.t.d.def_ 6 (d := d_is_tuple_of) rfl
  have b6 : Binds K fd6 ["many", "value"] [] := FunD.bindsN F6 fun _ _ _ _ _ _ us hl => match us, hl with | [_, _], _ => rfl
  obtain ⟨fd7, F7⟩ := c.t.d.def_ 7 (d := d_is_library) rfl
  have b7 : Binds K fd7 ["value"] [] := FunD.bindsN F7 fun _ _ _ _ _ _ us hl => match us, hl with | [_], _ => rfl
  obtain ⟨fd8, F8⟩ := c.t.d.def_ 8 (d := d_check_library) rfl
  have b8 : Binds K fd8 ["value"] [] := FunD.bindsN F8 fun _ _ _ _ _ _ us hl => match us, hl with | [_], _ => rfl
  obtain ⟨fd9, F9⟩ := c.t.d.def_ 9 (d := d_is_rule) rfl
  have b9 : Binds K fd9 ["value"] [] := FunD.bindsN F9 fun _ _ _ _ _ _ us hl => match us, hl with | [_], _ => rfl
  obtain ⟨fd10, F10⟩ := c.t.d.def_ 10 (d := d_check_rule) rfl
  have b10 : Binds K fd10 ["value"] [] := FunD.bindsN F10 fun _ _ _ _ _ _ us hl => match us, hl with | [_], _ => rfl
  obtain ⟨fd11, F11⟩ := c.t.d.def_ 11 (d := d_check_kind) rfl
  have b11 : Binds K fd11 ["value"] [] := FunD.bindsN F11 fun _ _ _ _ _ _ us hl => match us, hl with | [_], _ => rfl
  obtain ⟨fd12, F12⟩ := c.t.d.def_ 12 (d := d_holds) rfl
  have b12 : Binds K fd12 ["library", "kind", "rule"] [] := FunD.bindsN F12 fun _ _ _ _ _ _ us hl => match us, hl with | [_, _, _], _ => rfl
  obtain ⟨fd13, F13⟩ := c.t.d.def_ 13 (d := d_counterexample) rfl
  have b13 : Binds K fd13 ["library", "kind", "rule"] [] := FunD.bindsN F13 fun _ _ _ _ _ _ us hl => match us, hl with | [_, _, _], _ => rfl
  obtain ⟨fd14, F14⟩ := c.t.d.def_ 14 (d := d_law_taken) rfl
  have b14 : Binds K fd14 ["row", "many"] [] := FunD.bindsN F14 fun _ _ _ _ _ _ us hl => match us, hl with | [_, _], _ => rfl
  obtain ⟨fd15, F15⟩ := c.t.d.def_ 15 (d := d_law_pick) rfl
  have b15 : Binds K fd15 ["row", "kinds"] [] := FunD.bindsN F15 fun _ _ _ _ _ _ us hl => match us, hl with | [_, _], _ => rfl
  obtain ⟨fd16, F16⟩ := c.t.d.def_ 16 (d := d_law_alike) rfl
  have b16 : Binds K fd16 ["found", "due"] [] := FunD.bindsN F16 fun _ _ _ _ _ _ us hl => match us, hl with | [_, _], _ => rfl
  obtain ⟨fd17, F17⟩ := c.t.d.def_ 17 (d := d_law_library) rfl
  have b17 : Binds K fd17 ["row"] [] := FunD.bindsN F17 fun _ _ _ _ _ _ us hl => match us, hl with | [_], _ => rfl
  obtain ⟨fd18, F18⟩ := c.t.d.def_ 18 (d := d_law_offset) rfl
  have b18 : Binds K fd18 ["zone", "instant"] [] := FunD.bindsN F18 fun _ _ _ _ _ _ us hl => match us, hl with | [_, _], _ => rfl
  obtain ⟨fd19, F19⟩ := c.t.d.def_ 19 (d := d_law_instants) rfl
  have b19 : Binds K fd19 ["zone", "reading"] [] := FunD.bindsN F19 fun _ _ _ _ _ _ us hl => match us, hl with | [_, _], _ => rfl
  obtain ⟨fd20, F20⟩ := c.t.d.def_ 20 (d := d_law_before) rfl
  have b20 : Binds K fd20 ["zone", "reading"] [] := FunD.bindsN F20 fun _ _ _ _ _ _ us hl => match us, hl with | [_, _], _ => rfl
  obtain ⟨fd21, F21⟩ := c.t.d.def_ 21 (d := d_law_times) rfl
  have b21 : Binds K fd21 ["way", "zone", "reading"] [] := FunD.bindsN F21 fun _ _ _ _ _ _ us hl => match us, hl with | [_, _, _], _ => rfl
  obtain ⟨fd22, F22⟩ := c.t.d.def_ 22 (d := d_law_instant) rfl
  have b22 : Binds K fd22 ["way", "zone", "time"] [] := FunD.bindsN F22 fun _ _ _ _ _ _ us hl => match us, hl with | [_, _, _], _ => rfl
  obtain ⟨fd23, F23⟩ := c.t.d.def_ 23 (d := d_law_at) rfl
  have b23 : Binds K fd23 ["way", "zone", "instant"] [] := FunD.bindsN F23 fun _ _ _ _ _ _ us hl => match us, hl with | [_, _, _], _ => rfl
  obtain ⟨fd24, F24⟩ := c.t.d.def_ 24 (d := d_law_read) rfl
  have b24 : Binds K fd24 ["way", "zone", "reading"] [] := FunD.bindsN F24 fun _ _ _ _ _ _ us hl => match us, hl with | [_, _, _], _ => rfl
  obtain ⟨fd25, F25⟩ := c.t.d.def_ 25 (d := d_law_add) rfl
  have b25 : Binds K fd25 ["way", "zone", "time", "hours"] [] := FunD.bindsN F25 fun _ _ _ _ _ _ us hl => match us, hl with | [_, _, _, _], _ => rfl
  obtain ⟨fd26, F26⟩ := c.t.d.def_ 26 (d := d_law_less) rfl
  have b26 : Binds K fd26 ["way", "zone", "one", "other"] [] := FunD.bindsN F26 fun _ _ _ _ _ _ us hl => match us, hl with | [_, _, _, _], _ => rfl
  obtain ⟨fd27, F27⟩ := c.t.d.def_ 27 (d := d_law_order) rfl
  have b27 : Binds K fd27 ["way", "zone", "one", "other"] [] := FunD.bindsN F27 fun _ _ _ _ _ _ us hl => match us, hl with | [_, _, _, _], _ => rfl
  obtain ⟨fd28, F28⟩ := c.t.d.def_ 28 (d := d_law_rules) rfl
  have b28 : Binds K fd28 [] [] := FunD.bindsN F28 fun _ _ _ _ _ _ us hl => match us, hl with | [], _ => rfl
  obtain ⟨fd29, F29⟩ := c.t.d.def_ 29 (d := d_law_shape) rfl
  have b29 : Binds K fd29 ["rule"] [] := FunD.bindsN F29 fun _ _ _ _ _ _ us hl => match us, hl with | [_], _ => rfl
  obtain ⟨fd30, F30⟩ := c.t.d.def_ 30 (d := d_law_one) rfl
  have b30 : Binds K fd30 ["way", "zone", "rule", "x"] [] := FunD.bindsN F30 fun _ _ _ _ _ _ us hl => match us, hl with | [_, _, _, _], _ => rfl
  obtain ⟨fd31, F31⟩ := c.t.d.def_ 31 (d := d_law_moved) rfl
  have b31 : Binds K fd31 ["way", "zone", "rule", "t", "d", "e"] [] := FunD.bindsN F31 fun _ _ _ _ _ _ us hl => match us, hl with | [_, _, _, _, _, _], _ => rfl
  obtain ⟨fd32, F32⟩ := c.t.d.def_ 32 (d := d_law_two) rfl
  have b32 : Binds K fd32 ["way", "zone", "rule", "t", "u", "d"] [] := FunD.bindsN F32 fun _ _ _ _ _ _ us hl => match us, hl with | [_, _, _, _, _, _], _ => rfl
  obtain ⟨fd33, F33⟩ := c.t.d.def_ 33 (d := d_law_fits) rfl
  have b33 : Binds K fd33 ["way", "zone", "rule", "some"] [] := FunD.bindsN F33 fun _ _ _ _ _ _ us hl => match us, hl with | [_, _, _, _], _ => rfl
  obtain ⟨fd34, F34⟩ := c.t.d.def_ 34 (d := d_law) rfl
  have b34 : Binds K fd34 ["script"] [] := FunD.bindsN F34 fun _ _ _ _ _ _ us hl => match us, hl with | [_], _ => rfl
  let T : Txt w K mg := ⟨⟨_, fd0, F0, b0, He.glo_ok X G (c.t.d.fact 0 (f := .glo "arguments_in_gap") rfl)⟩,
    ⟨_, fd1, F1, b1, He.glo_ok X G (c.t.d.fact 1 (f := .glo "arguments_in_fold") rfl)⟩,
    ⟨_, fd2, F2, b2, He.glo_ok X G (c.t.d.fact 2 (f := .glo "_arguments_in_fold_for_wall_sums") rfl)⟩,
    ⟨_, fd3, F3, b3, He.glo_ok X G (c.t.d.fact 3 (f := .glo "_arguments_in_fold_for_elapsed_sums") rfl)⟩,
    ⟨_, fd4, F4, b4, He.glo_ok X G (c.t.d.fact 4 (f := .glo "holds_over_gaps") rfl)⟩,
    ⟨_, fd5, F5, b5, He.glo_ok X G (c.t.d.fact 5 (f := .glo "holds_over_folds") rfl)⟩,
    ⟨_, fd6, F6, b6, He.glo_ok X G (c.t.d.fact 6 (f := .glo "is_tuple_of") rfl)⟩,
    ⟨_, fd7, F7, b7, He.glo_ok X G (c.t.d.fact 7 (f := .glo "is_library") rfl)⟩,
    ⟨_, fd8, F8, b8, He.glo_ok X G (c.t.d.fact 8 (f := .glo "check_library") rfl)⟩,
    ⟨_, fd9, F9, b9, He.glo_ok X G (c.t.d.fact 9 (f := .glo "is_rule") rfl)⟩,
    ⟨_, fd10, F10, b10, He.glo_ok X G (c.t.d.fact 10 (f := .glo "check_rule") rfl)⟩,
    ⟨_, fd11, F11, b11, He.glo_ok X G (c.t.d.fact 11 (f := .glo "check_kind") rfl)⟩,
    ⟨_, fd12, F12, b12, He.glo_ok X G (c.t.d.fact 12 (f := .glo "holds") rfl)⟩,
    ⟨_, fd13, F13, b13, He.glo_ok X G (c.t.d.fact 13 (f := .glo "counterexample") rfl)⟩,
    ⟨_, fd14, F14, b14, He.glo_ok X G (c.t.d.fact 14 (f := .glo "_law_taken") rfl)⟩,
    ⟨_, fd15, F15, b15, He.glo_ok X G (c.t.d.fact 15 (f := .glo "_law_pick") rfl)⟩,
    ⟨_, fd16, F16, b16, He.glo_ok X G (c.t.d.fact 16 (f := .glo "_law_alike") rfl)⟩,
    ⟨_, fd17, F17, b17, He.glo_ok X G (c.t.d.fact 17 (f := .glo "_law_library") rfl)⟩,
    ⟨_, fd18, F18, b18, He.glo_ok X G (c.t.d.fact 18 (f := .glo "_law_offset") rfl)⟩,
    ⟨_, fd19, F19, b19, He.glo_ok X G (c.t.d.fact 19 (f := .glo "_law_instants") rfl)⟩,
    ⟨_, fd20, F20, b20, He.glo_ok X G (c.t.d.fact 20 (f := .glo "_law_before") rfl)⟩,
    ⟨_, fd21, F21, b21, He.glo_ok X G (c.t.d.fact 21 (f := .glo "_law_times") rfl)⟩,
    ⟨_, fd22, F22, b22, He.glo_ok X G (c.t.d.fact 22 (f := .glo "_law_instant") rfl)⟩,
    ⟨_, fd23, F23, b23, He.glo_ok X G (c.t.d.fact 23 (f := .glo "_law_at") rfl)⟩,
    ⟨_, fd24, F24, b24, He.glo_ok X G (c.t.d.fact 24 (f := .glo "_law_read") rfl)⟩,
    ⟨_, fd25, F25, b25, He.glo_ok X G (c.t.d.fact 25 (f := .glo "_law_add") rfl)⟩,
    ⟨_, fd26, F26, b26, He.glo_ok X G (c.t.d.fact 26 (f := .glo "_law_less") rfl)⟩,
    ⟨_, fd27, F27, b27, He.glo_ok X G (c.t.d.fact 27 (f := .glo "_law_order") rfl)⟩,
    ⟨_, fd28, F28, b28, He.glo_ok X G (c.t.d.fact 28 (f := .glo "_law_rules") rfl)⟩,
    ⟨_, fd29, F29, b29, He.glo_ok X G (c.t.d.fact 29 (f := .glo "_law_shape") rfl)⟩,
    ⟨_, fd30, F30, b30, He.glo_ok X G (c.t.d.fact 30 (f := .glo "_law_one") rfl)⟩,
    ⟨_, fd31, F31, b31, He.glo_ok X G (c.t.d.fact 31 (f := .glo "_law_moved") rfl)⟩,
    ⟨_, fd32, F32, b32, He.glo_ok X G (c.t.d.fact 32 (f := .glo "_law_two") rfl)⟩,
    ⟨_, fd33, F33, b33, He.glo_ok X G (c.t.d.fact 33 (f := .glo "_law_fits") rfl)⟩,
    ⟨_, fd34, F34, b34, He.glo_ok X G (c.t.d.fact 34 (f := .glo "law") rfl)⟩,
    He.free_ok X G (c.t.d.fact 35 (f := .free "isinstance") rfl),
    He.free_ok X G (c.t.d.fact 36 (f := .free "tuple") rfl),
    He.free_ok X G (c.t.d.fact 37 (f := .free "len") rfl),
    He.free_ok X G (c.t.d.fact 38 (f := .free "str") rfl),
    He.free_ok X G (c.t.d.fact 39 (f := .free "int") rfl),
    He.free_ok X G (c.t.d.fact 40 (f := .free "list") rfl),
    He.free_ok X G (c.t.d.fact 41 (f := .free "bool") rfl),
    He.free_ok X G (c.t.d.fact 42 (f := .free "range") rfl),
    He.free_ok X G (c.t.d.fact 43 (f := .free "max") rfl),
    He.ga K "IN_GAP",
    He.glo_ok X G (c.t.d.fact 44 (f := .glo "IN_GAP") rfl),
    (c.t.tab 0 (t := (gaF "IN_GAP", ["to universal and back", "every reading", "some reading", "sum of durations", "elapsed time", "sums told", "difference recovers", "order by difference", "one instant means equal", "one instant, one time", "order of instants"])) rfl),
    (itmAt (dctAt (gaF "IN_GAP") "to universal and back") 0 K),
    fun H => tupD_ok (c.p 1 (p := tupD (itmAt (dctAt (gaF "IN_GAP") "to universal and back") 0) [.int 0, .int 0]) rfl) H,
    (dctAt (gaF "IN_GAP") "to universal and back" K),
    fun H => tupD_ok (c.p 2 (p := tupD (dctAt (gaF "IN_GAP") "to universal and back") [.adr (itmAt (dctAt (gaF "IN_GAP") "to universal and back") 0)]) rfl) H,
    kdct_of (a := gaF "IN_GAP") (c.t.tab 0 (t := (gaF "IN_GAP", ["to universal and back", "every reading", "some reading", "sum of durations", "elapsed time", "sums told", "difference recovers", "order by difference", "one instant means equal", "one instant, one time", "order of instants"])) rfl) (c.p 0 (p := valsD (gaF "IN_GAP") [(("to universal and back" : Str), .adr (dctAt (gaF "IN_GAP") "to universal and back")), (("every reading" : Str), .adr (dctAt (gaF "IN_GAP") "every reading")), (("some reading" : Str), .adr (dctAt (gaF "IN_GAP") "some reading")), (("sum of durations" : Str), .adr (dctAt (gaF "IN_GAP") "sum of durations")), (("elapsed time" : Str), .adr (dctAt (gaF "IN_GAP") "elapsed time")), (("sums told" : Str), .adr (dctAt (gaF "IN_GAP") "sums told")), (("difference recovers" : Str), .adr (dctAt (gaF "IN_GAP") "difference recovers")), (("order by difference" : Str), .adr (dctAt (gaF "IN_GAP") "order by difference")), (("one instant means equal" : Str), .adr (dctAt (gaF "IN_GAP") "one instant means equal")), (("one instant, one time" : Str), .adr (dctAt (gaF "IN_GAP") "one instant, one time")), (("order of instants" : Str), .adr (dctAt (gaF "IN_GAP") "order of instants"))]) rfl) (List.mem_of_getElem? (i := 0) rfl),
    (dctAt (gaF "IN_GAP") "every reading" K),
    fun H => tupD_ok (c.p 3 (p := tupD (dctAt (gaF "IN_GAP") "every reading") [.int 0]) rfl) H,
    kdct_of (a := gaF "IN_GAP") (c.t.tab 0 (t := (gaF "IN_GAP", ["to universal and back", "every reading", "some reading", "sum of durations", "elapsed time", "sums told", "difference recovers", "order by difference", "one instant means equal", "one instant, one time", "order of instants"])) rfl) (c.p 0 (p := valsD (gaF "IN_GAP") [(("to universal and back" : Str), .adr (dctAt (gaF "IN_GAP") "to universal and back")), (("every reading" : Str), .adr (dctAt (gaF "IN_GAP") "every reading")), (("some reading" : Str), .adr (dctAt (gaF "IN_GAP") "some reading")), (("sum of durations" : Str), .adr (dctAt (gaF "IN_GAP") "sum of durations")), (("elapsed time" : Str), .adr (dctAt (gaF "IN_GAP") "elapsed time")), (("sums told" : Str), .adr (dctAt (gaF "IN_GAP") "sums told")), (("difference recovers" : Str), .adr (dctAt (gaF "IN_GAP") "difference recovers")), (("order by difference" : Str), .adr (dctAt (gaF "IN_GAP") "order by difference")), (("one instant means equal" : Str), .adr (dctAt (gaF "IN_GAP") "one instant means equal")), (("one instant, one time" : Str), .adr (dctAt (gaF "IN_GAP") "one instant, one time")), (("order of instants" : Str), .adr (dctAt (gaF "IN_GAP") "order of instants"))]) rfl) (List.mem_of_getElem? (i := 1) rfl),
    (dctAt (gaF "IN_GAP") "some reading" K),
    fun H => tupD_ok (c.p 4 (p := tupD (dctAt (gaF "IN_GAP") "some reading") [.int 0]) rfl) H,
    kdct_of (a := gaF "IN_GAP") (c.t.tab 0 (t := (gaF "IN_GAP", ["to universal and back", "every reading", "some reading", "sum of durations", "elapsed time", "sums told", "difference recovers", "order by difference", "one instant means equal", "one instant, one time", "order of instants"])) rfl) (c.p 0 (p := valsD (gaF "IN_GAP") [(("to universal and back" : Str), .adr (dctAt (gaF "IN_GAP") "to universal and back")), (("every reading" : Str), .adr (dctAt (gaF "IN_GAP") "every reading")), (("some reading" : Str), .adr (dctAt (gaF "IN_GAP") "some reading")), (("sum of durations" : Str), .adr (dctAt (gaF "IN_GAP") "sum of durations")), (("elapsed time" : Str), .adr (dctAt (gaF "IN_GAP") "elapsed time")), (("sums told" : Str), .adr (dctAt (gaF "IN_GAP") "sums told")), (("difference recovers" : Str), .adr (dctAt (gaF "IN_GAP") "difference recovers")), (("order by difference" : Str), .adr (dctAt (gaF "IN_GAP") "order by difference")), (("one instant means equal" : Str), .adr (dctAt (gaF "IN_GAP") "one instant means equal")), (("one instant, one time" : Str), .adr (dctAt (gaF "IN_GAP") "one instant, one time")), (("order of instants" : Str), .adr (dctAt (gaF "IN_GAP") "order of instants"))]) rfl) (List.mem_of_getElem? (i := 2) rfl),
    (itmAt (dctAt (gaF "IN_GAP") "sum of durations") 0 K),
    fun H => tupD_ok (c.p 5 (p := tupD (itmAt (dctAt (gaF "IN_GAP") "sum of durations") 0) [.int (-1), .int 0]) rfl) H,
    (dctAt (gaF "IN_GAP") "sum of durations" K),
    fun H => tupD_ok (c.p 6 (p := tupD (dctAt (gaF "IN_GAP") "sum of durations") [.adr (itmAt (dctAt (gaF "IN_GAP") "sum of durations") 0), .int 1, .int 2]) rfl) H,
    kdct_of (a := gaF "IN_GAP") (c.t.tab 0 (t := (gaF "IN_GAP", ["to universal and back", "every reading", "some reading", "sum of durations", "elapsed time", "sums told", "difference recovers", "order by difference", "one instant means equal", "one instant, one time", "order of instants"])) rfl) (c.p 0 (p := valsD (gaF "IN_GAP") [(("to universal and back" : Str), .adr (dctAt (gaF "IN_GAP") "to universal and back")), (("every reading" : Str), .adr (dctAt (gaF "IN_GAP") "every reading")), (("some reading" : Str), .adr (dctAt (gaF "IN_GAP") "some reading")), (("sum of durations" : Str), .adr (dctAt (gaF "IN_GAP") "sum of durations")), (("elapsed time" : Str), .adr (dctAt (gaF "IN_GAP") "elapsed time")), (("sums told" : Str), .adr (dctAt (gaF "IN_GAP") "sums told")), (("difference recovers" : Str), .adr (dctAt (gaF "IN_GAP") "difference recovers")), (("order by difference" : Str), .adr (dctAt (gaF "IN_GAP") "order by difference")), (("one instant means equal" : Str), .adr (dctAt (gaF "IN_GAP") "one instant means equal")), (("one instant, one time" : Str), .adr (dctAt (gaF "IN_GAP") "one instant, one time")), (("order of instants" : Str), .adr (dctAt (gaF "IN_GAP") "order of instants"))]) rfl) (List.mem_of_getElem? (i := 3) rfl),
    (itmAt (dctAt (gaF "IN_GAP") "elapsed time") 0 K),
    fun H => tupD_ok (c.p 7 (p := tupD (itmAt (dctAt (gaF "IN_GAP") "elapsed time") 0) [.int (-1), .int 0]) rfl) H,
    (dctAt (gaF "IN_GAP") "elapsed time" K),
    fun H => tupD_ok (c.p 8 (p := tupD (dctAt (gaF "IN_GAP") "elapsed time") [.adr (itmAt (dctAt (gaF "IN_GAP") "elapsed time") 0), .int 3]) rfl) H,
    kdct_of (a := gaF "IN_GAP") (c.t.tab 0 (t := (gaF "IN_GAP", ["to universal and back", "every reading", "some reading", "sum of durations", "elapsed time", "sums told", "difference recovers", "order by difference", "one instant means equal", "one instant, one time", "order of instants"])) rfl) (c.p 0 (p := valsD (gaF "IN_GAP") [(("to universal and back" : Str), .adr (dctAt (gaF "IN_GAP") "to universal and back")), (("every reading" : Str), .adr (dctAt (gaF "IN_GAP") "every reading")), (("some reading" : Str), .adr (dctAt (gaF "IN_GAP") "some reading")), (("sum of durations" : Str), .adr (dctAt (gaF "IN_GAP") "sum of durations")), (("elapsed time" : Str), .adr (dctAt (gaF "IN_GAP") "elapsed time")), (("sums told" : Str), .adr (dctAt (gaF "IN_GAP") "sums told")), (("difference recovers" : Str), .adr (dctAt (gaF "IN_GAP") "difference recovers")), (("order by difference" : Str), .adr (dctAt (gaF "IN_GAP") "order by difference")), (("one instant means equal" : Str), .adr (dctAt (gaF "IN_GAP") "one instant means equal")), (("one instant, one time" : Str), .adr (dctAt (gaF "IN_GAP") "one instant, one time")), (("order of instants" : Str), .adr (dctAt (gaF "IN_GAP") "order of instants"))]) rfl) (List.mem_of_getElem? (i := 4) rfl),
    (itmAt (dctAt (gaF "IN_GAP") "sums told") 0 K),
    fun H => tupD_ok (c.p 9 (p := tupD (itmAt (dctAt (gaF "IN_GAP") "sums told") 0) [.int (-1), .int 0]) rfl) H,
    (dctAt (gaF "IN_GAP") "sums told" K),
    fun H => tupD_ok (c.p 10 (p := tupD (dctAt (gaF "IN_GAP") "sums told") [.adr (itmAt (dctAt (gaF "IN_GAP") "sums told") 0), .int 1]) rfl) H,
    kdct_of (a := gaF "IN_GAP") (c.t.tab 0 (t := (gaF "IN_GAP", ["to universal and back", "every reading", "some reading", "sum of durations", "elapsed time", "sums told", "difference recovers", "order by difference", "one instant means equal", "one instant, one time", "order of instants"])) rfl) (c.p 0 (p := valsD (gaF "IN_GAP") [(("to universal and back" : Str), .adr (dctAt (gaF "IN_GAP") "to universal and back")), (("every reading" : Str), .adr (dctAt (gaF "IN_GAP") "every reading")), (("some reading" : Str), .adr (dctAt (gaF "IN_GAP") "some reading")), (("sum of durations" : Str), .adr (dctAt (gaF "IN_GAP") "sum of durations")), (("elapsed time" : Str), .adr (dctAt (gaF "IN_GAP") "elapsed time")), (("sums told" : Str), .adr (dctAt (gaF "IN_GAP") "sums told")), (("difference recovers" : Str), .adr (dctAt (gaF "IN_GAP") "difference recovers")), (("order by difference" : Str), .adr (dctAt (gaF "IN_GAP") "order by difference")), (("one instant means equal" : Str), .adr (dctAt (gaF "IN_GAP") "one instant means equal")), (("one instant, one time" : Str), .adr (dctAt (gaF "IN_GAP") "one instant, one time")), (("order of instants" : Str), .adr (dctAt (gaF "IN_GAP") "order of instants"))]) rfl) (List.mem_of_getElem? (i := 5) rfl),
    (itmAt (dctAt (gaF "IN_GAP") "difference recovers") 0 K),
    fun H => tupD_ok (c.p 11 (p := tupD (itmAt (dctAt (gaF "IN_GAP") "difference recovers") 0) [.int (-1), .int 0]) rfl) H,
    (itmAt (dctAt (gaF "IN_GAP") "difference recovers") 1 K),
    fun H => tupD_ok (c.p 12 (p := tupD (itmAt (dctAt (gaF "IN_GAP") "difference recovers") 1) [.int 0, .int 0]) rfl) H,
    (dctAt (gaF "IN_GAP") "difference recovers" K),
    fun H => tupD_ok (c.p 13 (p := tupD (dctAt (gaF "IN_GAP") "difference recovers") [.adr (itmAt (dctAt (gaF "IN_GAP") "difference recovers") 0), .adr (itmAt (dctAt (gaF "IN_GAP") "difference recovers") 1)]) rfl) H,
    kdct_of (a := gaF "IN_GAP") (c.t.tab 0 (t := (gaF "IN_GAP", ["to universal and back", "every reading", "some reading", "sum of durations", "elapsed time", "sums told", "difference recovers", "order by difference", "one instant means equal", "one instant, one time", "order of instants"])) rfl) (c.p 0 (p := valsD (gaF "IN_GAP") [(("to universal and back" : Str), .adr (dctAt (gaF "IN_GAP") "to universal and back")), (("every reading" : Str), .adr (dctAt (gaF "IN_GAP") "every reading")), (("some reading" : Str), .adr (dctAt (gaF "IN_GAP") "some reading")), (("sum of durations" : Str), .adr (dctAt (gaF "IN_GAP") "sum of durations")), (("elapsed time" : Str), .adr (dctAt (gaF "IN_GAP") "elapsed time")), (("sums told" : Str), .adr (dctAt (gaF "IN_GAP") "sums told")), (("difference recovers" : Str), .adr (dctAt (gaF "IN_GAP") "difference recovers")), (("order by difference" : Str), .adr (dctAt (gaF "IN_GAP") "order by difference")), (("one instant means equal" : Str), .adr (dctAt (gaF "IN_GAP") "one instant means equal")), (("one instant, one time" : Str), .adr (dctAt (gaF "IN_GAP") "one instant, one time")), (("order of instants" : Str), .adr (dctAt (gaF "IN_GAP") "order of instants"))]) rfl) (List.mem_of_getElem? (i := 6) rfl),
    (itmAt (dctAt (gaF "IN_GAP") "order by difference") 0 K),
    fun H => tupD_ok (c.p 14 (p := tupD (itmAt (dctAt (gaF "IN_GAP") "order by difference") 0) [.int 0, .int 0]) rfl) H,
    (itmAt (dctAt (gaF "IN_GAP") "order by difference") 1 K),
    fun H => tupD_ok (c.p 15 (p := tupD (itmAt (dctAt (gaF "IN_GAP") "order by difference") 1) [.int 2, .int 0]) rfl) H,
    (dctAt (gaF "IN_GAP") "order by difference" K),
    fun H => tupD_ok (c.p 16 (p := tupD (dctAt (gaF "IN_GAP") "order by difference") [.adr (itmAt (dctAt (gaF "IN_GAP") "order by difference") 0), .adr (itmAt (dctAt (gaF "IN_GAP") "order by difference") 1)]) rfl) H,
    kdct_of (a := gaF "IN_GAP") (c.t.tab 0 (t := (gaF "IN_GAP", ["to universal and back", "every reading", "some reading", "sum of durations", "elapsed time", "sums told", "difference recovers", "order by difference", "one instant means equal", "one instant, one time", "order of instants"])) rfl) (c.p 0 (p := valsD (gaF "IN_GAP") [(("to universal and back" : Str), .adr (dctAt (gaF "IN_GAP") "to universal and back")), (("every reading" : Str), .adr (dctAt (gaF "IN_GAP") "every reading")), (("some reading" : Str), .adr (dctAt (gaF "IN_GAP") "some reading")), (("sum of durations" : Str), .adr (dctAt (gaF "IN_GAP") "sum of durations")), (("elapsed time" : Str), .adr (dctAt (gaF "IN_GAP") "elapsed time")), (("sums told" : Str), .adr (dctAt (gaF "IN_GAP") "sums told")), (("difference recovers" : Str), .adr (dctAt (gaF "IN_GAP") "difference recovers")), (("order by difference" : Str), .adr (dctAt (gaF "IN_GAP") "order by difference")), (("one instant means equal" : Str), .adr (dctAt (gaF "IN_GAP") "one instant means equal")), (("one instant, one time" : Str), .adr (dctAt (gaF "IN_GAP") "one instant, one time")), (("order of instants" : Str), .adr (dctAt (gaF "IN_GAP") "order of instants"))]) rfl) (List.mem_of_getElem? (i := 7) rfl),
    (itmAt (dctAt (gaF "IN_GAP") "one instant means equal") 0 K),
    fun H => tupD_ok (c.p 17 (p := tupD (itmAt (dctAt (gaF "IN_GAP") "one instant means equal") 0) [.int 0, .int 0]) rfl) H,
    (itmAt (dctAt (gaF "IN_GAP") "one instant means equal") 1 K),
    fun H => tupD_ok (c.p 18 (p := tupD (itmAt (dctAt (gaF "IN_GAP") "one instant means equal") 1) [.int 2, .int 0]) rfl) H,
    (dctAt (gaF "IN_GAP") "one instant means equal" K),
    fun H => tupD_ok (c.p 19 (p := tupD (dctAt (gaF "IN_GAP") "one instant means equal") [.adr (itmAt (dctAt (gaF "IN_GAP") "one instant means equal") 0), .adr (itmAt (dctAt (gaF "IN_GAP") "one instant means equal") 1)]) rfl) H,
    kdct_of (a := gaF "IN_GAP") (c.t.tab 0 (t := (gaF "IN_GAP", ["to universal and back", "every reading", "some reading", "sum of durations", "elapsed time", "sums told", "difference recovers", "order by difference", "one instant means equal", "one instant, one time", "order of instants"])) rfl) (c.p 0 (p := valsD (gaF "IN_GAP") [(("to universal and back" : Str), .adr (dctAt (gaF "IN_GAP") "to universal and back")), (("every reading" : Str), .adr (dctAt (gaF "IN_GAP") "every reading")), (("some reading" : Str), .adr (dctAt (gaF "IN_GAP") "some reading")), (("sum of durations" : Str), .adr (dctAt (gaF "IN_GAP") "sum of durations")), (("elapsed time" : Str), .adr (dctAt (gaF "IN_GAP") "elapsed time")), (("sums told" : Str), .adr (dctAt (gaF "IN_GAP") "sums told")), (("difference recovers" : Str), .adr (dctAt (gaF "IN_GAP") "difference recovers")), (("order by difference" : Str), .adr (dctAt (gaF "IN_GAP") "order by difference")), (("one instant means equal" : Str), .adr (dctAt (gaF "IN_GAP") "one instant means equal")), (("one instant, one time" : Str), .adr (dctAt (gaF "IN_GAP") "one instant, one time")), (("order of instants" : Str), .adr (dctAt (gaF "IN_GAP") "order of instants"))]) rfl) (List.mem_of_getElem? (i := 8) rfl),
    (itmAt (dctAt (gaF "IN_GAP") "one instant, one time") 0 K),
    fun H => tupD_ok (c.p 20 (p := tupD (itmAt (dctAt (gaF "IN_GAP") "one instant, one time") 0) [.int 0, .int 0]) rfl) H,
    (itmAt (dctAt (gaF "IN_GAP") "one instant, one time") 1 K),
    fun H => tupD_ok (c.p 21 (p := tupD (itmAt (dctAt (gaF "IN_GAP") "one instant, one time") 1) [.int 2, .int 0]) rfl) H,
    (dctAt (gaF "IN_GAP") "one instant, one time" K),
    fun H => tupD_ok (c.p 22 (p := tupD (dctAt (gaF "IN_GAP") "one instant, one time") [.adr (itmAt (dctAt (gaF "IN_GAP") "one instant, one time") 0), .adr (itmAt (dctAt (gaF "IN_GAP") "one instant, one time") 1)]) rfl) H,
    kdct_of (a := gaF "IN_GAP") (c.t.tab 0 (t := (gaF "IN_GAP", ["to universal and back", "every reading", "some reading", "sum of durations", "elapsed time", "sums told", "difference recovers", "order by difference", "one instant means equal", "one instant, one time", "order of instants"])) rfl) (c.p 0 (p := valsD (gaF "IN_GAP") [(("to universal and back" : Str), .adr (dctAt (gaF "IN_GAP") "to universal and back")), (("every reading" : Str), .adr (dctAt (gaF "IN_GAP") "every reading")), (("some reading" : Str), .adr (dctAt (gaF "IN_GAP") "some reading")), (("sum of durations" : Str), .adr (dctAt (gaF "IN_GAP") "sum of durations")), (("elapsed time" : Str), .adr (dctAt (gaF "IN_GAP") "elapsed time")), (("sums told" : Str), .adr (dctAt (gaF "IN_GAP") "sums told")), (("difference recovers" : Str), .adr (dctAt (gaF "IN_GAP") "difference recovers")), (("order by difference" : Str), .adr (dctAt (gaF "IN_GAP") "order by difference")), (("one instant means equal" : Str), .adr (dctAt (gaF "IN_GAP") "one instant means equal")), (("one instant, one time" : Str), .adr (dctAt (gaF "IN_GAP") "one instant, one time")), (("order of instants" : Str), .adr (dctAt (gaF "IN_GAP") "order of instants"))]) rfl) (List.mem_of_getElem? (i := 9) rfl),
    (itmAt (dctAt (gaF "IN_GAP") "order of instants") 0 K),
    fun H => tupD_ok (c.p 23 (p := tupD (itmAt (dctAt (gaF "IN_GAP") "order of instants") 0) [.int 0, .int 0]) rfl) H,
    (itmAt (dctAt (gaF "IN_GAP") "order of instants") 1 K),
    fun H => tupD_ok (c.p 24 (p := tupD (itmAt (dctAt (gaF "IN_GAP") "order of instants") 1) [.int 2, .int 0]) rfl) H,
    (dctAt (gaF "IN_GAP") "order of instants" K),
    fun H => tupD_ok (c.p 25 (p := tupD (dctAt (gaF "IN_GAP") "order of instants") [.adr (itmAt (dctAt (gaF "IN_GAP") "order of instants") 0), .adr (itmAt (dctAt (gaF "IN_GAP") "order of instants") 1)]) rfl) H,
    kdct_of (a := gaF "IN_GAP") (c.t.tab 0 (t := (gaF "IN_GAP", ["to universal and back", "every reading", "some reading", "sum of durations", "elapsed time", "sums told", "difference recovers", "order by difference", "one instant means equal", "one instant, one time", "order of instants"])) rfl) (c.p 0 (p := valsD (gaF "IN_GAP") [(("to universal and back" : Str), .adr (dctAt (gaF "IN_GAP") "to universal and back")), (("every reading" : Str), .adr (dctAt (gaF "IN_GAP") "every reading")), (("some reading" : Str), .adr (dctAt (gaF "IN_GAP") "some reading")), (("sum of durations" : Str), .adr (dctAt (gaF "IN_GAP") "sum of durations")), (("elapsed time" : Str), .adr (dctAt (gaF "IN_GAP") "elapsed time")), (("sums told" : Str), .adr (dctAt (gaF "IN_GAP") "sums told")), (("difference recovers" : Str), .adr (dctAt (gaF "IN_GAP") "difference recovers")), (("order by difference" : Str), .adr (dctAt (gaF "IN_GAP") "order by difference")), (("one instant means equal" : Str), .adr (dctAt (gaF "IN_GAP") "one instant means equal")), (("one instant, one time" : Str), .adr (dctAt (gaF "IN_GAP") "one instant, one time")), (("order of instants" : Str), .adr (dctAt (gaF "IN_GAP") "order of instants"))]) rfl) (List.mem_of_getElem? (i := 10) rfl),
    He.eqO_ok (c.p 26 (p := nonB (gaF "IN_GAP") "from universal and back") rfl),
    He.eqO_ok (c.p 27 (p := nonB (gaF "IN_GAP") "there and back") rfl),
    He.eqO_ok (c.p 28 (p := nonB (gaF "IN_GAP") "same clock") rfl),
    He.eqO_ok (c.p 29 (p := nonB (gaF "IN_GAP") "later") rfl),
    He.eqO_ok (c.p 30 (p := nonB (gaF "IN_GAP") "equal means one instant") rfl),
    He.eqO_ok (c.p 31 (p := nonB (gaF "IN_GAP") "order kept") rfl),
    He.eqO_ok (c.p 32 (p := nonB (gaF "IN_GAP") "equal sums") rfl),
    He.ga K "IN_FOLD",
    He.glo_ok X G (c.t.d.fact 45 (f := .glo "IN_FOLD") rfl),
    (c.t.tab 1 (t := (gaF "IN_FOLD", ["every reading", "some reading", "sums told", "difference recovers", "order by difference", "equal means one instant", "order of instants"])) rfl),
    (dctAt (gaF "IN_FOLD") "every reading" K),
    fun H => tupD_ok (c.p 34 (p := tupD (dctAt (gaF "IN_FOLD") "every reading") [.int (-1)]) rfl) H,
    kdct_of (a := gaF "IN_FOLD") (c.t.tab 1 (t := (gaF "IN_FOLD", ["every reading", "some reading", "sums told", "difference recovers", "order by difference", "equal means one instant", "order of instants"])) rfl) (c.p 33 (p := valsD (gaF "IN_FOLD") [(("every reading" : Str), .adr (dctAt (gaF "IN_FOLD") "every reading")), (("some reading" : Str), .adr (dctAt (gaF "IN_FOLD") "some reading")), (("sums told" : Str), .adr (dctAt (gaF "IN_FOLD") "sums told")), (("difference recovers" : Str), .adr (dctAt (gaF "IN_FOLD") "difference recovers")), (("order by difference" : Str), .adr (dctAt (gaF "IN_FOLD") "order by difference")), (("equal means one instant" : Str), .adr (dctAt (gaF "IN_FOLD") "equal means one instant")), (("order of instants" : Str), .adr (dctAt (gaF "IN_FOLD") "order of instants"))]) rfl) (List.mem_of_getElem? (i := 0) rfl),
    (dctAt (gaF "IN_FOLD") "some reading" K),
    fun H => tupD_ok (c.p 35 (p := tupD (dctAt (gaF "IN_FOLD") "some reading") [.int (-1)]) rfl) H,
    kdct_of (a := gaF "IN_FOLD") (c.t.tab 1 (t := (gaF "IN_FOLD", ["every reading", "some reading", "sums told", "difference recovers", "order by difference", "equal means one instant", "order of instants"])) rfl) (c.p 33 (p := valsD (gaF "IN_FOLD") [(("every reading" : Str), .adr (dctAt (gaF "IN_FOLD") "every reading")), (("some reading" : Str), .adr (dctAt (gaF "IN_FOLD") "some reading")), (("sums told" : Str), .adr (dctAt (gaF "IN_FOLD") "sums told")), (("difference recovers" : Str), .adr (dctAt (gaF "IN_FOLD") "difference recovers")), (("order by difference" : Str), .adr (dctAt (gaF "IN_FOLD") "order by difference")), (("equal means one instant" : Str), .adr (dctAt (gaF "IN_FOLD") "equal means one instant")), (("order of instants" : Str), .adr (dctAt (gaF "IN_FOLD") "order of instants"))]) rfl) (List.mem_of_getElem? (i := 1) rfl),
    (itmAt (dctAt (gaF "IN_FOLD") "sums told") 0 K),
    fun H => tupD_ok (c.p 36 (p := tupD (itmAt (dctAt (gaF "IN_FOLD") "sums told") 0) [.int (-3), .int 0]) rfl) H,
    (dctAt (gaF "IN_FOLD") "sums told" K),
    fun H => tupD_ok (c.p 37 (p := tupD (dctAt (gaF "IN_FOLD") "sums told") [.adr (itmAt (dctAt (gaF "IN_FOLD") "sums told") 0), .int 2]) rfl) H,
    kdct_of (a := gaF "IN_FOLD") (c.t.tab 1 (t := (gaF "IN_FOLD", ["every reading", "some reading", "sums told", "difference recovers", "order by difference", "equal means one instant", "order of instants"])) rfl) (c.p 33 (p := valsD (gaF "IN_FOLD") [(("every reading" : Str), .adr (dctAt (gaF "IN_FOLD") "every reading")), (("some reading" : Str), .adr (dctAt (gaF "IN_FOLD") "some reading")), (("sums told" : Str), .adr (dctAt (gaF "IN_FOLD") "sums told")), (("difference recovers" : Str), .adr (dctAt (gaF "IN_FOLD") "difference recovers")), (("order by difference" : Str), .adr (dctAt (gaF "IN_FOLD") "order by difference")), (("equal means one instant" : Str), .adr (dctAt (gaF "IN_FOLD") "equal means one instant")), (("order of instants" : Str), .adr (dctAt (gaF "IN_FOLD") "order of instants"))]) rfl) (List.mem_of_getElem? (i := 2) rfl),
    (itmAt (dctAt (gaF "IN_FOLD") "difference recovers") 0 K),
    fun H => tupD_ok (c.p 38 (p := tupD (itmAt (dctAt (gaF "IN_FOLD") "difference recovers") 0) [.int (-3), .int 0]) rfl) H,
    (itmAt (dctAt (gaF "IN_FOLD") "difference recovers") 1 K),
    fun H => tupD_ok (c.p 39 (p := tupD (itmAt (dctAt (gaF "IN_FOLD") "difference recovers") 1) [.int (-1), .int 1]) rfl) H,
    (dctAt (gaF "IN_FOLD") "difference recovers" K),
    fun H => tupD_ok (c.p 40 (p := tupD (dctAt (gaF "IN_FOLD") "difference recovers") [.adr (itmAt (dctAt (gaF "IN_FOLD") "difference recovers") 0), .adr (itmAt (dctAt (gaF "IN_FOLD") "difference recovers") 1)]) rfl) H,
    kdct_of (a := gaF "IN_FOLD") (c.t.tab 1 (t := (gaF "IN_FOLD", ["every reading", "some reading", "sums told", "difference recovers", "order by difference", "equal means one instant", "order of instants"])) rfl) (c.p 33 (p := valsD (gaF "IN_FOLD") [(("every reading" : Str), .adr (dctAt (gaF "IN_FOLD") "every reading")), (("some reading" : Str), .adr (dctAt (gaF "IN_FOLD") "some reading")), (("sums told" : Str), .adr (dctAt (gaF "IN_FOLD") "sums told")), (("difference recovers" : Str), .adr (dctAt (gaF "IN_FOLD") "difference recovers")), (("order by difference" : Str), .adr (dctAt (gaF "IN_FOLD") "order by difference")), (("equal means one instant" : Str), .adr (dctAt (gaF "IN_FOLD") "equal means one instant")), (("order of instants" : Str), .adr (dctAt (gaF "IN_FOLD") "order of instants"))]) rfl) (List.mem_of_getElem? (i := 3) rfl),
    (itmAt (dctAt (gaF "IN_FOLD") "order by difference") 0 K),
    fun H => tupD_ok (c.p 41 (p := tupD (itmAt (dctAt (gaF "IN_FOLD") "order by difference") 0) [.int (-1), .int 0]) rfl) H,
    (itmAt (dctAt (gaF "IN_FOLD") "order by difference") 1 K),
    fun H => tupD_ok (c.p 42 (p := tupD (itmAt (dctAt (gaF "IN_FOLD") "order by difference") 1) [.int (-1), .int 1]) rfl) H,
    (dctAt (gaF "IN_FOLD") "order by difference" K),
    fun H => tupD_ok (c.p 43 (p := tupD (dctAt (gaF "IN_FOLD") "order by difference") [.adr (itmAt (dctAt (gaF "IN_FOLD") "order by difference") 0), .adr (itmAt (dctAt (gaF "IN_FOLD") "order by difference") 1)]) rfl) H,
    kdct_of (a := gaF "IN_FOLD") (c.t.tab 1 (t := (gaF "IN_FOLD", ["every reading", "some reading", "sums told", "difference recovers", "order by difference", "equal means one instant", "order of instants"])) rfl) (c.p 33 (p := valsD (gaF "IN_FOLD") [(("every reading" : Str), .adr (dctAt (gaF "IN_FOLD") "every reading")), (("some reading" : Str), .adr (dctAt (gaF "IN_FOLD") "some reading")), (("sums told" : Str), .adr (dctAt (gaF "IN_FOLD") "sums told")), (("difference recovers" : Str), .adr (dctAt (gaF "IN_FOLD") "difference recovers")), (("order by difference" : Str), .adr (dctAt (gaF "IN_FOLD") "order by difference")), (("equal means one instant" : Str), .adr (dctAt (gaF "IN_FOLD") "equal means one instant")), (("order of instants" : Str), .adr (dctAt (gaF "IN_FOLD") "order of instants"))]) rfl) (List.mem_of_getElem? (i := 4) rfl),
    (itmAt (dctAt (gaF "IN_FOLD") "equal means one instant") 0 K),
    fun H => tupD_ok (c.p 44 (p := tupD (itmAt (dctAt (gaF "IN_FOLD") "equal means one instant") 0) [.int (-1), .int 0]) rfl) H,
    (itmAt (dctAt (gaF "IN_FOLD") "equal means one instant") 1 K),
    fun H => tupD_ok (c.p 45 (p := tupD (itmAt (dctAt (gaF "IN_FOLD") "equal means one instant") 1) [.int (-1), .int 1]) rfl) H,
    (dctAt (gaF "IN_FOLD") "equal means one instant" K),
    fun H => tupD_ok (c.p 46 (p := tupD (dctAt (gaF "IN_FOLD") "equal means one instant") [.adr (itmAt (dctAt (gaF "IN_FOLD") "equal means one instant") 0), .adr (itmAt (dctAt (gaF "IN_FOLD") "equal means one instant") 1)]) rfl) H,
    kdct_of (a := gaF "IN_FOLD") (c.t.tab 1 (t := (gaF "IN_FOLD", ["every reading", "some reading", "sums told", "difference recovers", "order by difference", "equal means one instant", "order of instants"])) rfl) (c.p 33 (p := valsD (gaF "IN_FOLD") [(("every reading" : Str), .adr (dctAt (gaF "IN_FOLD") "every reading")), (("some reading" : Str), .adr (dctAt (gaF "IN_FOLD") "some reading")), (("sums told" : Str), .adr (dctAt (gaF "IN_FOLD") "sums told")), (("difference recovers" : Str), .adr (dctAt (gaF "IN_FOLD") "difference recovers")), (("order by difference" : Str), .adr (dctAt (gaF "IN_FOLD") "order by difference")), (("equal means one instant" : Str), .adr (dctAt (gaF "IN_FOLD") "equal means one instant")), (("order of instants" : Str), .adr (dctAt (gaF "IN_FOLD") "order of instants"))]) rfl) (List.mem_of_getElem? (i := 5) rfl),
    (itmAt (dctAt (gaF "IN_FOLD") "order of instants") 0 K),
    fun H => tupD_ok (c.p 47 (p := tupD (itmAt (dctAt (gaF "IN_FOLD") "order of instants") 0) [.int (-1), .int 0]) rfl) H,
    (itmAt (dctAt (gaF "IN_FOLD") "order of instants") 1 K),
    fun H => tupD_ok (c.p 48 (p := tupD (itmAt (dctAt (gaF "IN_FOLD") "order of instants") 1) [.int (-1), .int 1]) rfl) H,
    (dctAt (gaF "IN_FOLD") "order of instants" K),
    fun H => tupD_ok (c.p 49 (p := tupD (dctAt (gaF "IN_FOLD") "order of instants") [.adr (itmAt (dctAt (gaF "IN_FOLD") "order of instants") 0), .adr (itmAt (dctAt (gaF "IN_FOLD") "order of instants") 1)]) rfl) H,
    kdct_of (a := gaF "IN_FOLD") (c.t.tab 1 (t := (gaF "IN_FOLD", ["every reading", "some reading", "sums told", "difference recovers", "order by difference", "equal means one instant", "order of instants"])) rfl) (c.p 33 (p := valsD (gaF "IN_FOLD") [(("every reading" : Str), .adr (dctAt (gaF "IN_FOLD") "every reading")), (("some reading" : Str), .adr (dctAt (gaF "IN_FOLD") "some reading")), (("sums told" : Str), .adr (dctAt (gaF "IN_FOLD") "sums told")), (("difference recovers" : Str), .adr (dctAt (gaF "IN_FOLD") "difference recovers")), (("order by difference" : Str), .adr (dctAt (gaF "IN_FOLD") "order by difference")), (("equal means one instant" : Str), .adr (dctAt (gaF "IN_FOLD") "equal means one instant")), (("order of instants" : Str), .adr (dctAt (gaF "IN_FOLD") "order of instants"))]) rfl) (List.mem_of_getElem? (i := 6) rfl),
    He.eqO_ok (c.p 50 (p := nonB (gaF "IN_FOLD") "from universal and back") rfl),
    He.eqO_ok (c.p 51 (p := nonB (gaF "IN_FOLD") "to universal and back") rfl),
    He.eqO_ok (c.p 52 (p := nonB (gaF "IN_FOLD") "there and back") rfl),
    He.eqO_ok (c.p 53 (p := nonB (gaF "IN_FOLD") "sum of durations") rfl),
    He.eqO_ok (c.p 54 (p := nonB (gaF "IN_FOLD") "elapsed time") rfl),
    He.eqO_ok (c.p 55 (p := nonB (gaF "IN_FOLD") "same clock") rfl),
    He.eqO_ok (c.p 56 (p := nonB (gaF "IN_FOLD") "later") rfl),
    He.eqO_ok (c.p 57 (p := nonB (gaF "IN_FOLD") "one instant means equal") rfl),
    He.eqO_ok (c.p 58 (p := nonB (gaF "IN_FOLD") "one instant, one time") rfl),
    He.eqO_ok (c.p 59 (p := nonB (gaF "IN_FOLD") "order kept") rfl),
    He.eqO_ok (c.p 60 (p := nonB (gaF "IN_FOLD") "equal sums") rfl),
    He.ga K "SUMS",
    He.glo_ok X G (c.t.d.fact 46 (f := .glo "SUMS") rfl),
    fun H => tupD_ok (c.p 61 (p := tupD (gaF "SUMS") [.str "elapsed", .str "wall"]) rfl) H,
    He.ga K "ORDERS",
    He.glo_ok X G (c.t.d.fact 47 (f := .glo "ORDERS") rfl),
    fun H => tupD_ok (c.p 62 (p := tupD (gaF "ORDERS") [.str "elapsed", .str "wall"]) rfl) H,
    He.ga K "GAPS",
    He.glo_ok X G (c.t.d.fact 48 (f := .glo "GAPS") rfl),
    fun H => tupD_ok (c.p 63 (p := tupD (gaF "GAPS") [.str "keep", .str "refuse", .str "shift"]) rfl) H,
    He.ga K "FOLDS",
    He.glo_ok X G (c.t.d.fact 49 (f := .glo "FOLDS") rfl),
    fun H => tupD_ok (c.p 64 (p := tupD (gaF "FOLDS") [.str "both", .str "first", .str "refuse", .str "second"]) rfl) H,
    He.ga K "SHAPES",
    He.glo_ok X G (c.t.d.fact 50 (f := .glo "SHAPES") rfl),
    (c.t.tab 2 (t := (gaF "SHAPES", ["from universal and back", "to universal and back", "every reading", "some reading", "there and back", "sum of durations", "elapsed time", "same clock", "later", "sums told", "difference recovers", "order by difference", "equal means one instant", "one instant means equal", "one instant, one time", "order of instants", "order kept", "equal sums"])) rfl),
    (dctAt (gaF "SHAPES") "from universal and back" K),
    fun H => tupD_ok (c.p 66 (p := tupD (dctAt (gaF "SHAPES") "from universal and back") [.str "instant"]) rfl) H,
    kdct_of (a := gaF "SHAPES") (c.t.tab 2 (t := (gaF "SHAPES", ["from universal and back", "to universal and back", "every reading", "some reading", "there and back", "sum of durations", "elapsed time", "same clock", "later", "sums told", "difference recovers", "order by difference", "equal means one instant", "one instant means equal", "one instant, one time", "order of instants", "order kept", "equal sums"])) rfl) (c.p 65 (p := valsD (gaF "SHAPES") [(("from universal and back" : Str), .adr (dctAt (gaF "SHAPES") "from universal and back")), (("to universal and back" : Str), .adr (dctAt (gaF "SHAPES") "to universal and back")), (("every reading" : Str), .adr (dctAt (gaF "SHAPES") "every reading")), (("some reading" : Str), .adr (dctAt (gaF "SHAPES") "some reading")), (("there and back" : Str), .adr (dctAt (gaF "SHAPES") "there and back")), (("sum of durations" : Str), .adr (dctAt (gaF "SHAPES") "sum of durations")), (("elapsed time" : Str), .adr (dctAt (gaF "SHAPES") "elapsed time")), (("same clock" : Str), .adr (dctAt (gaF "SHAPES") "same clock")), (("later" : Str), .adr (dctAt (gaF "SHAPES") "later")), (("sums told" : Str), .adr (dctAt (gaF "SHAPES") "sums told")), (("difference recovers" : Str), .adr (dctAt (gaF "SHAPES") "difference recovers")), (("order by difference" : Str), .adr (dctAt (gaF "SHAPES") "order by difference")), (("equal means one instant" : Str), .adr (dctAt (gaF "SHAPES") "equal means one instant")), (("one instant means equal" : Str), .adr (dctAt (gaF "SHAPES") "one instant means equal")), (("one instant, one time" : Str), .adr (dctAt (gaF "SHAPES") "one instant, one time")), (("order of instants" : Str), .adr (dctAt (gaF "SHAPES") "order of instants")), (("order kept" : Str), .adr (dctAt (gaF "SHAPES") "order kept")), (("equal sums" : Str), .adr (dctAt (gaF "SHAPES") "equal sums"))]) rfl) (List.mem_of_getElem? (i := 0) rfl),
    (dctAt (gaF "SHAPES") "to universal and back" K),
    fun H => tupD_ok (c.p 67 (p := tupD (dctAt (gaF "SHAPES") "to universal and back") [.str "time"]) rfl) H,
    kdct_of (a := gaF "SHAPES") (c.t.tab 2 (t := (gaF "SHAPES", ["from universal and back", "to universal and back", "every reading", "some reading", "there and back", "sum of durations", "elapsed time", "same clock", "later", "sums told", "difference recovers", "order by difference", "equal means one instant", "one instant means equal", "one instant, one time", "order of instants", "order kept", "equal sums"])) rfl) (c.p 65 (p := valsD (gaF "SHAPES") [(("from universal and back" : Str), .adr (dctAt (gaF "SHAPES") "from universal and back")), (("to universal and back" : Str), .adr (dctAt (gaF "SHAPES") "to universal and back")), (("every reading" : Str), .adr (dctAt (gaF "SHAPES") "every reading")), (("some reading" : Str), .adr (dctAt (gaF "SHAPES") "some reading")), (("there and back" : Str), .adr (dctAt (gaF "SHAPES") "there and back")), (("sum of durations" : Str), .adr (dctAt (gaF "SHAPES") "sum of durations")), (("elapsed time" : Str), .adr (dctAt (gaF "SHAPES") "elapsed time")), (("same clock" : Str), .adr (dctAt (gaF "SHAPES") "same clock")), (("later" : Str), .adr (dctAt (gaF "SHAPES") "later")), (("sums told" : Str), .adr (dctAt (gaF "SHAPES") "sums told")), (("difference recovers" : Str), .adr (dctAt (gaF "SHAPES") "difference recovers")), (("order by difference" : Str), .adr (dctAt (gaF "SHAPES") "order by difference")), (("equal means one instant" : Str), .adr (dctAt (gaF "SHAPES") "equal means one instant")), (("one instant means equal" : Str), .adr (dctAt (gaF "SHAPES") "one instant means equal")), (("one instant, one time" : Str), .adr (dctAt (gaF "SHAPES") "one instant, one time")), (("order of instants" : Str), .adr (dctAt (gaF "SHAPES") "order of instants")), (("order kept" : Str), .adr (dctAt (gaF "SHAPES") "order kept")), (("equal sums" : Str), .adr (dctAt (gaF "SHAPES") "equal sums"))]) rfl) (List.mem_of_getElem? (i := 1) rfl),
    (dctAt (gaF "SHAPES") "every reading" K),
    fun H => tupD_ok (c.p 68 (p := tupD (dctAt (gaF "SHAPES") "every reading") [.str "reading"]) rfl) H,
    kdct_of (a := gaF "SHAPES") (c.t.tab 2 (t := (gaF "SHAPES", ["from universal and back", "to universal and back", "every reading", "some reading", "there and back", "sum of durations", "elapsed time", "same clock", "later", "sums told", "difference recovers", "order by difference", "equal means one instant", "one instant means equal", "one instant, one time", "order of instants", "order kept", "equal sums"])) rfl) (c.p 65 (p := valsD (gaF "SHAPES") [(("from universal and back" : Str), .adr (dctAt (gaF "SHAPES") "from universal and back")), (("to universal and back" : Str), .adr (dctAt (gaF "SHAPES") "to universal and back")), (("every reading" : Str), .adr (dctAt (gaF "SHAPES") "every reading")), (("some reading" : Str), .adr (dctAt (gaF "SHAPES") "some reading")), (("there and back" : Str), .adr (dctAt (gaF "SHAPES") "there and back")), (("sum of durations" : Str), .adr (dctAt (gaF "SHAPES") "sum of durations")), (("elapsed time" : Str), .adr (dctAt (gaF "SHAPES") "elapsed time")), (("same clock" : Str), .adr (dctAt (gaF "SHAPES") "same clock")), (("later" : Str), .adr (dctAt (gaF "SHAPES") "later")), (("sums told" : Str), .adr (dctAt (gaF "SHAPES") "sums told")), (("difference recovers" : Str), .adr (dctAt (gaF "SHAPES") "difference recovers")), (("order by difference" : Str), .adr (dctAt (gaF "SHAPES") "order by difference")), (("equal means one instant" : Str), .adr (dctAt (gaF "SHAPES") "equal means one instant")), (("one instant means equal" : Str), .adr (dctAt (gaF "SHAPES") "one instant means equal")), (("one instant, one time" : Str), .adr (dctAt (gaF "SHAPES") "one instant, one time")), (("order of instants" : Str), .adr (dctAt (gaF "SHAPES") "order of instants")), (("order kept" : Str), .adr (dctAt (gaF "SHAPES") "order kept")), (("equal sums" : Str), .adr (dctAt (gaF "SHAPES") "equal sums"))]) rfl) (List.mem_of_getElem? (i := 2) rfl),
    (dctAt (gaF "SHAPES") "some reading" K),
    fun H => tupD_ok (c.p 69 (p := tupD (dctAt (gaF "SHAPES") "some reading") [.str "reading"]) rfl) H,
    kdct_of (a := gaF "SHAPES") (c.t.tab 2 (t := (gaF "SHAPES", ["from universal and back", "to universal and back", "every reading", "some reading", "there and back", "sum of durations", "elapsed time", "same clock", "later", "sums told", "difference recovers", "order by difference", "equal means one instant", "one instant means equal", "one instant, one time", "order of instants", "order kept", "equal sums"])) rfl) (c.p 65 (p := valsD (gaF "SHAPES") [(("from universal and back" : Str), .adr (dctAt (gaF "SHAPES") "from universal and back")), (("to universal and back" : Str), .adr (dctAt (gaF "SHAPES") "to universal and back")), (("every reading" : Str), .adr (dctAt (gaF "SHAPES") "every reading")), (("some reading" : Str), .adr (dctAt (gaF "SHAPES") "some reading")), (("there and back" : Str), .adr (dctAt (gaF "SHAPES") "there and back")), (("sum of durations" : Str), .adr (dctAt (gaF "SHAPES") "sum of durations")), (("elapsed time" : Str), .adr (dctAt (gaF "SHAPES") "elapsed time")), (("same clock" : Str), .adr (dctAt (gaF "SHAPES") "same clock")), (("later" : Str), .adr (dctAt (gaF "SHAPES") "later")), (("sums told" : Str), .adr (dctAt (gaF "SHAPES") "sums told")), (("difference recovers" : Str), .adr (dctAt (gaF "SHAPES") "difference recovers")), (("order by difference" : Str), .adr (dctAt (gaF "SHAPES") "order by difference")), (("equal means one instant" : Str), .adr (dctAt (gaF "SHAPES") "equal means one instant")), (("one instant means equal" : Str), .adr (dctAt (gaF "SHAPES") "one instant means equal")), (("one instant, one time" : Str), .adr (dctAt (gaF "SHAPES") "one instant, one time")), (("order of instants" : Str), .adr (dctAt (gaF "SHAPES") "order of instants")), (("order kept" : Str), .adr (dctAt (gaF "SHAPES") "order kept")), (("equal sums" : Str), .adr (dctAt (gaF "SHAPES") "equal sums"))]) rfl) (List.mem_of_getElem? (i := 3) rfl),
    (dctAt (gaF "SHAPES") "there and back" K),
    fun H => tupD_ok (c.p 70 (p := tupD (dctAt (gaF "SHAPES") "there and back") [.str "time", .str "duration"]) rfl) H,
    kdct_of (a := gaF "SHAPES") (c.t.tab 2 (t := (gaF "SHAPES", ["from universal and back", "to universal and back", "every reading", "some reading", "there and back", "sum of durations", "elapsed time", "same clock", "later", "sums told", "difference recovers", "order by difference", "equal means one instant", "one instant means equal", "one instant, one time", "order of instants", "order kept", "equal sums"])) rfl) (c.p 65 (p := valsD (gaF "SHAPES") [(("from universal and back" : Str), .adr (dctAt (gaF "SHAPES") "from universal and back")), (("to universal and back" : Str), .adr (dctAt (gaF "SHAPES") "to universal and back")), (("every reading" : Str), .adr (dctAt (gaF "SHAPES") "every reading")), (("some reading" : Str), .adr (dctAt (gaF "SHAPES") "some reading")), (("there and back" : Str), .adr (dctAt (gaF "SHAPES") "there and back")), (("sum of durations" : Str), .adr (dctAt (gaF "SHAPES") "sum of durations")), (("elapsed time" : Str), .adr (dctAt (gaF "SHAPES") "elapsed time")), (("same clock" : Str), .adr (dctAt (gaF "SHAPES") "same clock")), (("later" : Str), .adr (dctAt (gaF "SHAPES") "later")), (("sums told" : Str), .adr (dctAt (gaF "SHAPES") "sums told")), (("difference recovers" : Str), .adr (dctAt (gaF "SHAPES") "difference recovers")), (("order by difference" : Str), .adr (dctAt (gaF "SHAPES") "order by difference")), (("equal means one instant" : Str), .adr (dctAt (gaF "SHAPES") "equal means one instant")), (("one instant means equal" : Str), .adr (dctAt (gaF "SHAPES") "one instant means equal")), (("one instant, one time" : Str), .adr (dctAt (gaF "SHAPES") "one instant, one time")), (("order of instants" : Str), .adr (dctAt (gaF "SHAPES") "order of instants")), (("order kept" : Str), .adr (dctAt (gaF "SHAPES") "order kept")), (("equal sums" : Str), .adr (dctAt (gaF "SHAPES") "equal sums"))]) rfl) (List.mem_of_getElem? (i := 4) rfl),
    (dctAt (gaF "SHAPES") "sum of durations" K),
    fun H => tupD_ok (c.p 71 (p := tupD (dctAt (gaF "SHAPES") "sum of durations") [.str "time", .str "duration", .str "duration"]) rfl) H,
    kdct_of (a := gaF "SHAPES") (c.t.tab 2 (t := (gaF "SHAPES", ["from universal and back", "to universal and back", "every reading", "some reading", "there and back", "sum of durations", "elapsed time", "same clock", "later", "sums told", "difference recovers", "order by difference", "equal means one instant", "one instant means equal", "one instant, one time", "order of instants", "order kept", "equal sums"])) rfl) (c.p 65 (p := valsD (gaF "SHAPES") [(("from universal and back" : Str), .adr (dctAt (gaF "SHAPES") "from universal and back")), (("to universal and back" : Str), .adr (dctAt (gaF "SHAPES") "to universal and back")), (("every reading" : Str), .adr (dctAt (gaF "SHAPES") "every reading")), (("some reading" : Str), .adr (dctAt (gaF "SHAPES") "some reading")), (("there and back" : Str), .adr (dctAt (gaF "SHAPES") "there and back")), (("sum of durations" : Str), .adr (dctAt (gaF "SHAPES") "sum of durations")), (("elapsed time" : Str), .adr (dctAt (gaF "SHAPES") "elapsed time")), (("same clock" : Str), .adr (dctAt (gaF "SHAPES") "same clock")), (("later" : Str), .adr (dctAt (gaF "SHAPES") "later")), (("sums told" : Str), .adr (dctAt (gaF "SHAPES") "sums told")), (("difference recovers" : Str), .adr (dctAt (gaF "SHAPES") "difference recovers")), (("order by difference" : Str), .adr (dctAt (gaF "SHAPES") "order by difference")), (("equal means one instant" : Str), .adr (dctAt (gaF "SHAPES") "equal means one instant")), (("one instant means equal" : Str), .adr (dctAt (gaF "SHAPES") "one instant means equal")), (("one instant, one time" : Str), .adr (dctAt (gaF "SHAPES") "one instant, one time")), (("order of instants" : Str), .adr (dctAt (gaF "SHAPES") "order of instants")), (("order kept" : Str), .adr (dctAt (gaF "SHAPES") "order kept")), (("equal sums" : Str), .adr (dctAt (gaF "SHAPES") "equal sums"))]) rfl) (List.mem_of_getElem? (i := 5) rfl),
    (dctAt (gaF "SHAPES") "elapsed time" K),
    fun H => tupD_ok (c.p 72 (p := tupD (dctAt (gaF "SHAPES") "elapsed time") [.str "time", .str "duration"]) rfl) H,
    kdct_of (a := gaF "SHAPES") (c.t.tab 2 (t := (gaF "SHAPES", ["from universal and back", "to universal and back", "every reading", "some reading", "there and back", "sum of durations", "elapsed time", "same clock", "later", "sums told", "difference recovers", "order by difference", "equal means one instant", "one instant means equal", "one instant, one time", "order of instants", "order kept", "equal sums"])) rfl) (c.p 65 (p := valsD (gaF "SHAPES") [(("from universal and back" : Str), .adr (dctAt (gaF "SHAPES") "from universal and back")), (("to universal and back" : Str), .adr (dctAt (gaF "SHAPES") "to universal and back")), (("every reading" : Str), .adr (dctAt (gaF "SHAPES") "every reading")), (("some reading" : Str), .adr (dctAt (gaF "SHAPES") "some reading")), (("there and back" : Str), .adr (dctAt (gaF "SHAPES") "there and back")), (("sum of durations" : Str), .adr (dctAt (gaF "SHAPES") "sum of durations")), (("elapsed time" : Str), .adr (dctAt (gaF "SHAPES") "elapsed time")), (("same clock" : Str), .adr (dctAt (gaF "SHAPES") "same clock")), (("later" : Str), .adr (dctAt (gaF "SHAPES") "later")), (("sums told" : Str), .adr (dctAt (gaF "SHAPES") "sums told")), (("difference recovers" : Str), .adr (dctAt (gaF "SHAPES") "difference recovers")), (("order by difference" : Str), .adr (dctAt (gaF "SHAPES") "order by difference")), (("equal means one instant" : Str), .adr (dctAt (gaF "SHAPES") "equal means one instant")), (("one instant means equal" : Str), .adr (dctAt (gaF "SHAPES") "one instant means equal")), (("one instant, one time" : Str), .adr (dctAt (gaF "SHAPES") "one instant, one time")), (("order of instants" : Str), .adr (dctAt (gaF "SHAPES") "order of instants")), (("order kept" : Str), .adr (dctAt (gaF "SHAPES") "order kept")), (("equal sums" : Str), .adr (dctAt (gaF "SHAPES") "equal sums"))]) rfl) (List.mem_of_getElem? (i := 6) rfl),
    (dctAt (gaF "SHAPES") "same clock" K),
    fun H => tupD_ok (c.p 73 (p := tupD (dctAt (gaF "SHAPES") "same clock") [.str "time"]) rfl) H,
    kdct_of (a := gaF "SHAPES") (c.t.tab 2 (t := (gaF "SHAPES", ["from universal and back", "to universal and back", "every reading", "some reading", "there and back", "sum of durations", "elapsed time", "same clock", "later", "sums told", "difference recovers", "order by difference", "equal means one instant", "one instant means equal", "one instant, one time", "order of instants", "order kept", "equal sums"])) rfl) (c.p 65 (p := valsD (gaF "SHAPES") [(("from universal and back" : Str), .adr (dctAt (gaF "SHAPES") "from universal and back")), (("to universal and back" : Str), .adr (dctAt (gaF "SHAPES") "to universal and back")), (("every reading" : Str), .adr (dctAt (gaF "SHAPES") "every reading")), (("some reading" : Str), .adr (dctAt (gaF "SHAPES") "some reading")), (("there and back" : Str), .adr (dctAt (gaF "SHAPES") "there and back")), (("sum of durations" : Str), .adr (dctAt (gaF "SHAPES") "sum of durations")), (("elapsed time" : Str), .adr (dctAt (gaF "SHAPES") "elapsed time")), (("same clock" : Str), .adr (dctAt (gaF "SHAPES") "same clock")), (("later" : Str), .adr (dctAt (gaF "SHAPES") "later")), (("sums told" : Str), .adr (dctAt (gaF "SHAPES") "sums told")), (("difference recovers" : Str), .adr (dctAt (gaF "SHAPES") "difference recovers")), (("order by difference" : Str), .adr (dctAt (gaF "SHAPES") "order by difference")), (("equal means one instant" : Str), .adr (dctAt (gaF "SHAPES") "equal means one instant")), (("one instant means equal" : Str), .adr (dctAt (gaF "SHAPES") "one instant means equal")), (("one instant, one time" : Str), .adr (dctAt (gaF "SHAPES") "one instant, one time")), (("order of instants" : Str), .adr (dctAt (gaF "SHAPES") "order of instants")), (("order kept" : Str), .adr (dctAt (gaF "SHAPES") "order kept")), (("equal sums" : Str), .adr (dctAt (gaF "SHAPES") "equal sums"))]) rfl) (List.mem_of_getElem? (i := 7) rfl),
    (dctAt (gaF "SHAPES") "later" K),
    fun H => tupD_ok (c.p 74 (p := tupD (dctAt (gaF "SHAPES") "later") [.str "time", .str "duration"]) rfl) H,
    kdct_of (a := gaF "SHAPES") (c.t.tab 2 (t := (gaF "SHAPES", ["from universal and back", "to universal and back", "every reading", "some reading", "there and back", "sum of durations", "elapsed time", "same clock", "later", "sums told", "difference recovers", "order by difference", "equal means one instant", "one instant means equal", "one instant, one time", "order of instants", "order kept", "equal sums"])) rfl) (c.p 65 (p := valsD (gaF "SHAPES") [(("from universal and back" : Str), .adr (dctAt (gaF "SHAPES") "from universal and back")), (("to universal and back" : Str), .adr (dctAt (gaF "SHAPES") "to universal and back")), (("every reading" : Str), .adr (dctAt (gaF "SHAPES") "every reading")), (("some reading" : Str), .adr (dctAt (gaF "SHAPES") "some reading")), (("there and back" : Str), .adr (dctAt (gaF "SHAPES") "there and back")), (("sum of durations" : Str), .adr (dctAt (gaF "SHAPES") "sum of durations")), (("elapsed time" : Str), .adr (dctAt (gaF "SHAPES") "elapsed time")), (("same clock" : Str), .adr (dctAt (gaF "SHAPES") "same clock")), (("later" : Str), .adr (dctAt (gaF "SHAPES") "later")), (("sums told" : Str), .adr (dctAt (gaF "SHAPES") "sums told")), (("difference recovers" : Str), .adr (dctAt (gaF "SHAPES") "difference recovers")), (("order by difference" : Str), .adr (dctAt (gaF "SHAPES") "order by difference")), (("equal means one instant" : Str), .adr (dctAt (gaF "SHAPES") "equal means one instant")), (("one instant means equal" : Str), .adr (dctAt (gaF "SHAPES") "one instant means equal")), (("one instant, one time" : Str), .adr (dctAt (gaF "SHAPES") "one instant, one time")), (("order of instants" : Str), .adr (dctAt (gaF "SHAPES") "order of instants")), (("order kept" : Str), .adr (dctAt (gaF "SHAPES") "order kept")), (("equal sums" : Str), .adr (dctAt (gaF "SHAPES") "equal sums"))]) rfl) (List.mem_of_getElem? (i := 8) rfl),
    (dctAt (gaF "SHAPES") "sums told" K),
    fun H => tupD_ok (c.p 75 (p := tupD (dctAt (gaF "SHAPES") "sums told") [.str "time", .str "duration"]) rfl) H,
    kdct_of (a := gaF "SHAPES") (c.t.tab 2 (t := (gaF "SHAPES", ["from universal and back", "to universal and back", "every reading", "some reading", "there and back", "sum of durations", "elapsed time", "same clock", "later", "sums told", "difference recovers", "order by difference", "equal means one instant", "one instant means equal", "one instant, one time", "order of instants", "order kept", "equal sums"])) rfl) (c.p 65 (p := valsD (gaF "SHAPES") [(("from universal and back" : Str), .adr (dctAt (gaF "SHAPES") "from universal and back")), (("to universal and back" : Str), .adr (dctAt (gaF "SHAPES") "to universal and back")), (("every reading" : Str), .adr (dctAt (gaF "SHAPES") "every reading")), (("some reading" : Str), .adr (dctAt (gaF "SHAPES") "some reading")), (("there and back" : Str), .adr (dctAt (gaF "SHAPES") "there and back")), (("sum of durations" : Str), .adr (dctAt (gaF "SHAPES") "sum of durations")), (("elapsed time" : Str), .adr (dctAt (gaF "SHAPES") "elapsed time")), (("same clock" : Str), .adr (dctAt (gaF "SHAPES") "same clock")), (("later" : Str), .adr (dctAt (gaF "SHAPES") "later")), (("sums told" : Str), .adr (dctAt (gaF "SHAPES") "sums told")), (("difference recovers" : Str), .adr (dctAt (gaF "SHAPES") "difference recovers")), (("order by difference" : Str), .adr (dctAt (gaF "SHAPES") "order by difference")), (("equal means one instant" : Str), .adr (dctAt (gaF "SHAPES") "equal means one instant")), (("one instant means equal" : Str), .adr (dctAt (gaF "SHAPES") "one instant means equal")), (("one instant, one time" : Str), .adr (dctAt (gaF "SHAPES") "one instant, one time")), (("order of instants" : Str), .adr (dctAt (gaF "SHAPES") "order of instants")), (("order kept" : Str), .adr (dctAt (gaF "SHAPES") "order kept")), (("equal sums" : Str), .adr (dctAt (gaF "SHAPES") "equal sums"))]) rfl) (List.mem_of_getElem? (i := 9) rfl),
    (dctAt (gaF "SHAPES") "difference recovers" K),
    fun H => tupD_ok (c.p 76 (p := tupD (dctAt (gaF "SHAPES") "difference recovers") [.str "time", .str "time"]) rfl) H,
    kdct_of (a := gaF "SHAPES") (c.t.tab 2 (t := (gaF "SHAPES", ["from universal and back", "to universal and back", "every reading", "some reading", "there and back", "sum of durations", "elapsed time", "same clock", "later", "sums told", "difference recovers", "order by difference", "equal means one instant", "one instant means equal", "one instant, one time", "order of instants", "order kept", "equal sums"])) rfl) (c.p 65 (p := valsD (gaF "SHAPES") [(("from universal and back" : Str), .adr (dctAt (gaF "SHAPES") "from universal and back")), (("to universal and back" : Str), .adr (dctAt (gaF "SHAPES") "to universal and back")), (("every reading" : Str), .adr (dctAt (gaF "SHAPES") "every reading")), (("some reading" : Str), .adr (dctAt (gaF "SHAPES") "some reading")), (("there and back" : Str), .adr (dctAt (gaF "SHAPES") "there and back")), (("sum of durations" : Str), .adr (dctAt (gaF "SHAPES") "sum of durations")), (("elapsed time" : Str), .adr (dctAt (gaF "SHAPES") "elapsed time")), (("same clock" : Str), .adr (dctAt (gaF "SHAPES") "same clock")), (("later" : Str), .adr (dctAt (gaF "SHAPES") "later")), (("sums told" : Str), .adr (dctAt (gaF "SHAPES") "sums told")), (("difference recovers" : Str), .adr (dctAt (gaF "SHAPES") "difference recovers")), (("order by difference" : Str), .adr (dctAt (gaF "SHAPES") "order by difference")), (("equal means one instant" : Str), .adr (dctAt (gaF "SHAPES") "equal means one instant")), (("one instant means equal" : Str), .adr (dctAt (gaF "SHAPES") "one instant means equal")), (("one instant, one time" : Str), .adr (dctAt (gaF "SHAPES") "one instant, one time")), (("order of instants" : Str), .adr (dctAt (gaF "SHAPES") "order of instants")), (("order kept" : Str), .adr (dctAt (gaF "SHAPES") "order kept")), (("equal sums" : Str), .adr (dctAt (gaF "SHAPES") "equal sums"))]) rfl) (List.mem_of_getElem? (i := 10) rfl),
    (dctAt (gaF "SHAPES") "order by difference" K),
    fun H => tupD_ok (c.p 77 (p := tupD (dctAt (gaF "SHAPES") "order by difference") [.str "time", .str "time"]) rfl) H,
    kdct_of (a := gaF "SHAPES") (c.t.tab 2 (t := (gaF "SHAPES", ["from universal and back", "to universal and back", "every reading", "some reading", "there and back", "sum of durations", "elapsed time", "same clock", "later", "sums told", "difference recovers", "order by difference", "equal means one instant", "one instant means equal", "one instant, one time", "order of instants", "order kept", "equal sums"])) rfl) (c.p 65 (p := valsD (gaF "SHAPES") [(("from universal and back" : Str), .adr (dctAt (gaF "SHAPES") "from universal and back")), (("to universal and back" : Str), .adr (dctAt (gaF "SHAPES") "to universal and back")), (("every reading" : Str), .adr (dctAt (gaF "SHAPES") "every reading")), (("some reading" : Str), .adr (dctAt (gaF "SHAPES") "some reading")), (("there and back" : Str), .adr (dctAt (gaF "SHAPES") "there and back")), (("sum of durations" : Str), .adr (dctAt (gaF "SHAPES") "sum of durations")), (("elapsed time" : Str), .adr (dctAt (gaF "SHAPES") "elapsed time")), (("same clock" : Str), .adr (dctAt (gaF "SHAPES") "same clock")), (("later" : Str), .adr (dctAt (gaF "SHAPES") "later")), (("sums told" : Str), .adr (dctAt (gaF "SHAPES") "sums told")), (("difference recovers" : Str), .adr (dctAt (gaF "SHAPES") "difference recovers")), (("order by difference" : Str), .adr (dctAt (gaF "SHAPES") "order by difference")), (("equal means one instant" : Str), .adr (dctAt (gaF "SHAPES") "equal means one instant")), (("one instant means equal" : Str), .adr (dctAt (gaF "SHAPES") "one instant means equal")), (("one instant, one time" : Str), .adr (dctAt (gaF "SHAPES") "one instant, one time")), (("order of instants" : Str), .adr (dctAt (gaF "SHAPES") "order of instants")), (("order kept" : Str), .adr (dctAt (gaF "SHAPES") "order kept")), (("equal sums" : Str), .adr (dctAt (gaF "SHAPES") "equal sums"))]) rfl) (List.mem_of_getElem? (i := 11) rfl),
    (dctAt (gaF "SHAPES") "equal means one instant" K),
    fun H => tupD_ok (c.p 78 (p := tupD (dctAt (gaF "SHAPES") "equal means one instant") [.str "time", .str "time"]) rfl) H,
    kdct_of (a := gaF "SHAPES") (c.t.tab 2 (t := (gaF "SHAPES", ["from universal and back", "to universal and back", "every reading", "some reading", "there and back", "sum of durations", "elapsed time", "same clock", "later", "sums told", "difference recovers", "order by difference", "equal means one instant", "one instant means equal", "one instant, one time", "order of instants", "order kept", "equal sums"])) rfl) (c.p 65 (p := valsD (gaF "SHAPES") [(("from universal and back" : Str), .adr (dctAt (gaF "SHAPES") "from universal and back")), (("to universal and back" : Str), .adr (dctAt (gaF "SHAPES") "to universal and back")), (("every reading" : Str), .adr (dctAt (gaF "SHAPES") "every reading")), (("some reading" : Str), .adr (dctAt (gaF "SHAPES") "some reading")), (("there and back" : Str), .adr (dctAt (gaF "SHAPES") "there and back")), (("sum of durations" : Str), .adr (dctAt (gaF "SHAPES") "sum of durations")), (("elapsed time" : Str), .adr (dctAt (gaF "SHAPES") "elapsed time")), (("same clock" : Str), .adr (dctAt (gaF "SHAPES") "same clock")), (("later" : Str), .adr (dctAt (gaF "SHAPES") "later")), (("sums told" : Str), .adr (dctAt (gaF "SHAPES") "sums told")), (("difference recovers" : Str), .adr (dctAt (gaF "SHAPES") "difference recovers")), (("order by difference" : Str), .adr (dctAt (gaF "SHAPES") "order by difference")), (("equal means one instant" : Str), .adr (dctAt (gaF "SHAPES") "equal means one instant")), (("one instant means equal" : Str), .adr (dctAt (gaF "SHAPES") "one instant means equal")), (("one instant, one time" : Str), .adr (dctAt (gaF "SHAPES") "one instant, one time")), (("order of instants" : Str), .adr (dctAt (gaF "SHAPES") "order of instants")), (("order kept" : Str), .adr (dctAt (gaF "SHAPES") "order kept")), (("equal sums" : Str), .adr (dctAt (gaF "SHAPES") "equal sums"))]) rfl) (List.mem_of_getElem? (i := 12) rfl),
    (dctAt (gaF "SHAPES") "one instant means equal" K),
    fun H => tupD_ok (c.p 79 (p := tupD (dctAt (gaF "SHAPES") "one instant means equal") [.str "time", .str "time"]) rfl) H,
    kdct_of (a := gaF "SHAPES") (c.t.tab 2 (t := (gaF "SHAPES", ["from universal and back", "to universal and back", "every reading", "some reading", "there and back", "sum of durations", "elapsed time", "same clock", "later", "sums told", "difference recovers", "order by difference", "equal means one instant", "one instant means equal", "one instant, one time", "order of instants", "order kept", "equal sums"])) rfl) (c.p 65 (p := valsD (gaF "SHAPES") [(("from universal and back" : Str), .adr (dctAt (gaF "SHAPES") "from universal and back")), (("to universal and back" : Str), .adr (dctAt (gaF "SHAPES") "to universal and back")), (("every reading" : Str), .adr (dctAt (gaF "SHAPES") "every reading")), (("some reading" : Str), .adr (dctAt (gaF "SHAPES") "some reading")), (("there and back" : Str), .adr (dctAt (gaF "SHAPES") "there and back")), (("sum of durations" : Str), .adr (dctAt (gaF "SHAPES") "sum of durations")), (("elapsed time" : Str), .adr (dctAt (gaF "SHAPES") "elapsed time")), (("same clock" : Str), .adr (dctAt (gaF "SHAPES") "same clock")), (("later" : Str), .adr (dctAt (gaF "SHAPES") "later")), (("sums told" : Str), .adr (dctAt (gaF "SHAPES") "sums told")), (("difference recovers" : Str), .adr (dctAt (gaF "SHAPES") "difference recovers")), (("order by difference" : Str), .adr (dctAt (gaF "SHAPES") "order by difference")), (("equal means one instant" : Str), .adr (dctAt (gaF "SHAPES") "equal means one instant")), (("one instant means equal" : Str), .adr (dctAt (gaF "SHAPES") "one instant means equal")), (("one instant, one time" : Str), .adr (dctAt (gaF "SHAPES") "one instant, one time")), (("order of instants" : Str), .adr (dctAt (gaF "SHAPES") "order of instants")), (("order kept" : Str), .adr (dctAt (gaF "SHAPES") "order kept")), (("equal sums" : Str), .adr (dctAt (gaF "SHAPES") "equal sums"))]) rfl) (List.mem_of_getElem? (i := 13) rfl),
    (dctAt (gaF "SHAPES") "one instant, one time" K),
    fun H => tupD_ok (c.p 80 (p := tupD (dctAt (gaF "SHAPES") "one instant, one time") [.str "time", .str "time"]) rfl) H,
    kdct_of (a := gaF "SHAPES") (c.t.tab 2 (t := (gaF "SHAPES", ["from universal and back", "to universal and back", "every reading", "some reading", "there and back", "sum of durations", "elapsed time", "same clock", "later", "sums told", "difference recovers", "order by difference", "equal means one instant", "one instant means equal", "one instant, one time", "order of instants", "order kept", "equal sums"])) rfl) (c.p 65 (p := valsD (gaF "SHAPES") [(("from universal and back" : Str), .adr (dctAt (gaF "SHAPES") "from universal and back")), (("to universal and back" : Str), .adr (dctAt (gaF "SHAPES") "to universal and back")), (("every reading" : Str), .adr (dctAt (gaF "SHAPES") "every reading")), (("some reading" : Str), .adr (dctAt (gaF "SHAPES") "some reading")), (("there and back" : Str), .adr (dctAt (gaF "SHAPES") "there and back")), (("sum of durations" : Str), .adr (dctAt (gaF "SHAPES") "sum of durations")), (("elapsed time" : Str), .adr (dctAt (gaF "SHAPES") "elapsed time")), (("same clock" : Str), .adr (dctAt (gaF "SHAPES") "same clock")), (("later" : Str), .adr (dctAt (gaF "SHAPES") "later")), (("sums told" : Str), .adr (dctAt (gaF "SHAPES") "sums told")), (("difference recovers" : Str), .adr (dctAt (gaF "SHAPES") "difference recovers")), (("order by difference" : Str), .adr (dctAt (gaF "SHAPES") "order by difference")), (("equal means one instant" : Str), .adr (dctAt (gaF "SHAPES") "equal means one instant")), (("one instant means equal" : Str), .adr (dctAt (gaF "SHAPES") "one instant means equal")), (("one instant, one time" : Str), .adr (dctAt (gaF "SHAPES") "one instant, one time")), (("order of instants" : Str), .adr (dctAt (gaF "SHAPES") "order of instants")), (("order kept" : Str), .adr (dctAt (gaF "SHAPES") "order kept")), (("equal sums" : Str), .adr (dctAt (gaF "SHAPES") "equal sums"))]) rfl) (List.mem_of_getElem? (i := 14) rfl),
    (dctAt (gaF "SHAPES") "order of instants" K),
    fun H => tupD_ok (c.p 81 (p := tupD (dctAt (gaF "SHAPES") "order of instants") [.str "time", .str "time"]) rfl) H,
    kdct_of (a := gaF "SHAPES") (c.t.tab 2 (t := (gaF "SHAPES", ["from universal and back", "to universal and back", "every reading", "some reading", "there and back", "sum of durations", "elapsed time", "same clock", "later", "sums told", "difference recovers", "order by difference", "equal means one instant", "one instant means equal", "one instant, one time", "order of instants", "order kept", "equal sums"])) rfl) (c.p 65 (p := valsD (gaF "SHAPES") [(("from universal and back" : Str), .adr (dctAt (gaF "SHAPES") "from universal and back")), (("to universal and back" : Str), .adr (dctAt (gaF "SHAPES") "to universal and back")), (("every reading" : Str), .adr (dctAt (gaF "SHAPES") "every reading")), (("some reading" : Str), .adr (dctAt (gaF "SHAPES") "some reading")), (("there and back" : Str), .adr (dctAt (gaF "SHAPES") "there and back")), (("sum of durations" : Str), .adr (dctAt (gaF "SHAPES") "sum of durations")), (("elapsed time" : Str), .adr (dctAt (gaF "SHAPES") "elapsed time")), (("same clock" : Str), .adr (dctAt (gaF "SHAPES") "same clock")), (("later" : Str), .adr (dctAt (gaF "SHAPES") "later")), (("sums told" : Str), .adr (dctAt (gaF "SHAPES") "sums told")), (("difference recovers" : Str), .adr (dctAt (gaF "SHAPES") "difference recovers")), (("order by difference" : Str), .adr (dctAt (gaF "SHAPES") "order by difference")), (("equal means one instant" : Str), .adr (dctAt (gaF "SHAPES") "equal means one instant")), (("one instant means equal" : Str), .adr (dctAt (gaF "SHAPES") "one instant means equal")), (("one instant, one time" : Str), .adr (dctAt (gaF "SHAPES") "one instant, one time")), (("order of instants" : Str), .adr (dctAt (gaF "SHAPES") "order of instants")), (("order kept" : Str), .adr (dctAt (gaF "SHAPES") "order kept")), (("equal sums" : Str), .adr (dctAt (gaF "SHAPES") "equal sums"))]) rfl) (List.mem_of_getElem? (i := 15) rfl),
    (dctAt (gaF "SHAPES") "order kept" K),
    fun H => tupD_ok (c.p 82 (p := tupD (dctAt (gaF "SHAPES") "order kept") [.str "time", .str "time", .str "duration"]) rfl) H,
    kdct_of (a := gaF "SHAPES") (c.t.tab 2 (t := (gaF "SHAPES", ["from universal and back", "to universal and back", "every reading", "some reading", "there and back", "sum of durations", "elapsed time", "same clock", "later", "sums told", "difference recovers", "order by difference", "equal means one instant", "one instant means equal", "one instant, one time", "order of instants", "order kept", "equal sums"])) rfl) (c.p 65 (p := valsD (gaF "SHAPES") [(("from universal and back" : Str), .adr (dctAt (gaF "SHAPES") "from universal and back")), (("to universal and back" : Str), .adr (dctAt (gaF "SHAPES") "to universal and back")), (("every reading" : Str), .adr (dctAt (gaF "SHAPES") "every reading")), (("some reading" : Str), .adr (dctAt (gaF "SHAPES") "some reading")), (("there and back" : Str), .adr (dctAt (gaF "SHAPES") "there and back")), (("sum of durations" : Str), .adr (dctAt (gaF "SHAPES") "sum of durations")), (("elapsed time" : Str), .adr (dctAt (gaF "SHAPES") "elapsed time")), (("same clock" : Str), .adr (dctAt (gaF "SHAPES") "same clock")), (("later" : Str), .adr (dctAt (gaF "SHAPES") "later")), (("sums told" : Str), .adr (dctAt (gaF "SHAPES") "sums told")), (("difference recovers" : Str), .adr (dctAt (gaF "SHAPES") "difference recovers")), (("order by difference" : Str), .adr (dctAt (gaF "SHAPES") "order by difference")), (("equal means one instant" : Str), .adr (dctAt (gaF "SHAPES") "equal means one instant")), (("one instant means equal" : Str), .adr (dctAt (gaF "SHAPES") "one instant means equal")), (("one instant, one time" : Str), .adr (dctAt (gaF "SHAPES") "one instant, one time")), (("order of instants" : Str), .adr (dctAt (gaF "SHAPES") "order of instants")), (("order kept" : Str), .adr (dctAt (gaF "SHAPES") "order kept")), (("equal sums" : Str), .adr (dctAt (gaF "SHAPES") "equal sums"))]) rfl) (List.mem_of_getElem? (i := 16) rfl),
    (dctAt (gaF "SHAPES") "equal sums" K),
    fun H => tupD_ok (c.p 83 (p := tupD (dctAt (gaF "SHAPES") "equal sums") [.str "time", .str "time", .str "duration"]) rfl) H,
    kdct_of (a := gaF "SHAPES") (c.t.tab 2 (t := (gaF "SHAPES", ["from universal and back", "to universal and back", "every reading", "some reading", "there and back", "sum of durations", "elapsed time", "same clock", "later", "sums told", "difference recovers", "order by difference", "equal means one instant", "one instant means equal", "one instant, one time", "order of instants", "order kept", "equal sums"])) rfl) (c.p 65 (p := valsD (gaF "SHAPES") [(("from universal and back" : Str), .adr (dctAt (gaF "SHAPES") "from universal and back")), (("to universal and back" : Str), .adr (dctAt (gaF "SHAPES") "to universal and back")), (("every reading" : Str), .adr (dctAt (gaF "SHAPES") "every reading")), (("some reading" : Str), .adr (dctAt (gaF "SHAPES") "some reading")), (("there and back" : Str), .adr (dctAt (gaF "SHAPES") "there and back")), (("sum of durations" : Str), .adr (dctAt (gaF "SHAPES") "sum of durations")), (("elapsed time" : Str), .adr (dctAt (gaF "SHAPES") "elapsed time")), (("same clock" : Str), .adr (dctAt (gaF "SHAPES") "same clock")), (("later" : Str), .adr (dctAt (gaF "SHAPES") "later")), (("sums told" : Str), .adr (dctAt (gaF "SHAPES") "sums told")), (("difference recovers" : Str), .adr (dctAt (gaF "SHAPES") "difference recovers")), (("order by difference" : Str), .adr (dctAt (gaF "SHAPES") "order by difference")), (("equal means one instant" : Str), .adr (dctAt (gaF "SHAPES") "equal means one instant")), (("one instant means equal" : Str), .adr (dctAt (gaF "SHAPES") "one instant means equal")), (("one instant, one time" : Str), .adr (dctAt (gaF "SHAPES") "one instant, one time")), (("order of instants" : Str), .adr (dctAt (gaF "SHAPES") "order of instants")), (("order kept" : Str), .adr (dctAt (gaF "SHAPES") "order kept")), (("equal sums" : Str), .adr (dctAt (gaF "SHAPES") "equal sums"))]) rfl) (List.mem_of_getElem? (i := 17) rfl),
    He.ga K "KINDS",
    He.glo_ok X G (c.t.d.fact 51 (f := .glo "KINDS") rfl),
    fun H => tupD_ok (c.p 84 (p := tupD (gaF "KINDS") [.str "fixed", .str "skips", .str "repeats", .str "both"]) rfl) H,
    He.ga K "GAP_ZONE",
    He.glo_ok X G (c.t.d.fact 52 (f := .glo "GAP_ZONE") rfl),
    (itmAt (itmAt (gaF "GAP_ZONE") 1) 0 K),
    fun H => tupD_ok (c.p 85 (p := tupD (itmAt (itmAt (gaF "GAP_ZONE") 1) 0) [.int 0, .int 2]) rfl) H,
    (itmAt (gaF "GAP_ZONE") 1 K),
    fun H => tupD_ok (c.p 86 (p := tupD (itmAt (gaF "GAP_ZONE") 1) [.adr (itmAt (itmAt (gaF "GAP_ZONE") 1) 0)]) rfl) H,
    fun H => tupD_ok (c.p 87 (p := tupD (gaF "GAP_ZONE") [.int 0, .adr (itmAt (gaF "GAP_ZONE") 1)]) rfl) H,
    He.ga K "FOLD_ZONE",
    He.glo_ok X G (c.t.d.fact 53 (f := .glo "FOLD_ZONE") rfl),
    (itmAt (itmAt (gaF "FOLD_ZONE") 1) 0 K),
    fun H => tupD_ok (c.p 88 (p := tupD (itmAt (itmAt (gaF "FOLD_ZONE") 1) 0) [.int 0, .int (-2)]) rfl) H,
    (itmAt (gaF "FOLD_ZONE") 1 K),
    fun H => tupD_ok (c.p 89 (p := tupD (itmAt (gaF "FOLD_ZONE") 1) [.adr (itmAt (itmAt (gaF "FOLD_ZONE") 1) 0)]) rfl) H,
    fun H => tupD_ok (c.p 90 (p := tupD (gaF "FOLD_ZONE") [.int 0, .adr (itmAt (gaF "FOLD_ZONE") 1)]) rfl) H⟩
  have e := hfa.symm.trans (He.glo_ok X G (c.t.d.fact 34 (f := .glo "law") rfl))
  cases e
  have b := FunD.bindsA (ps := ["script"]) F34 fun _ _ _ _ _ _ us hl => match us, hl with | [_], _ => rfl
  exact ⟨fd34, fun s v => b s [v] rfl, fun base _ _ => ok_law T⟩
end TH
open PySem PySem.W PySem.Calls PyProof.Rows in
set_option maxRecDepth 100000 in
set_option maxHeartbeats 0 in
theorem PySem.Challenge.cw_timeheld_k02_whole_one_change_holds : PySem.Challenge.rw_timeheld_k02_whole_one_change.Holds := by
  w_on; o_law
  refine HandSHeadRun.head_any (r := OpenLaw.row PySem.Challenge.rw_timeheld_k02_whole_one_change) (q := view (OpenLaw.row PySem.Challenge.rw_timeheld_k02_whole_one_change).prog [56]) (H := TH.hk) (ob := TH.ob) (M := 8000) (loose := TH.loose) (d := HandSHeadRun.topDef (OpenLaw.row PySem.Challenge.rw_timeheld_k02_whole_one_change).prog 56) (kwd := []) TH.ob_eq
    (by kernel_rfl) (fun s => by kernel_rfl) TH.run (by kernel_rfl) (by kernel_rfl) (by kernel_rfl) (by rfl) (by first | assumption | decide +kernel) (by decide +kernel) ⟨rfl, rfl, rfl, rfl, rfl, by decide +kernel⟩ ?hw ?hc
  case hw => w_witness2
  case hc =>
    refine L2.walk_ofE (l := PySem.Challenge.rw_timeheld_k02_whole_one_change) (n := 63) (k := 8) (x := "script") (CX := L2.CX0) rfl (by decide) (by kernel_rfl) ⟨rfl, by decide, by decide⟩ ?F (fun _ _ _ _ z => z)
    intro w mg fa h Y G hmg0
    obtain ⟨K, KX, c⟩ := Y
    have hmg : mg ("law" : PySem.Str) = some (.ref fa) := by
      have e : (HandSHeadRun.topDef (OpenLaw.row PySem.Challenge.rw_timeheld_k02_whole_one_change).prog 56).name = ("law" : PySem.Str) := by kernel_rfl
      rw [← e]
      exact hmg0
    obtain ⟨fd, hb, hF⟩ := TH.facts (P := (PySem.Challenge.rw_timeheld_k02_whole_one_change).prog) (w := w) KX G hmg c
    exact ⟨K, fd, TH.sp_law K, KX, hb, fun H a ns hl _ hS => ⟨a, ns, rfl, hS, hl, fun _ => rfl⟩, hF⟩
