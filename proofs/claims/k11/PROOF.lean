import PyProof.Rows.All
import Wide.All
import OpenK.AllK
import Wide.FinOn
import HandS.ForMost
import HandS.SetBool
import HandS.Strs
import HandS.Evl
import HandS.IsInst
import HandS.Flow
import HandS.Style
import HandS.Wide
import HandS.Deep
import HandS.Defaults
import HandS.NoneIn
import HandS.Small
import HandS.HeadHook3
import HandS.CallLocal
import HandS.Star
import HandS.Zip
import PyProof.RulesMatch
import KE.KDictSum
import KE.KDictCopyH
import PyProof.TupleOfGen
import KE.KDflt
import HandS.Lambda
import HandS.Nested
import HandS.Exc
import HandS.ExcOwn
import HandS.ExcIs
import HandS.WordsExc
import HandS.EndTab
import HandS.HeadHook4
import HandS.Text
import HandS.StrMore
import HandS.FStr
import HandS.SetFor
import PyProof.CollectIter
import HandS.Walk
import PyProof.StrLawsAffix
import PyProof.StrLawsChain
import HandS.TupAny
import PySem.Challenge.RW_timeheld_k11_whole_refused_later
import HandS.Head0
import HandS.Head1
import HandS.Head2
import HandS.HeadEnd
import HandS.HeadHook1
import HandS.HeadHook2
import HandS.HeadWalk
import PyProof.P3In
set_option Elab.async false
set_option linter.all false
set_option maxRecDepth 100000
set_option maxHeartbeats 4000000
/-! A set comprehension whose elements are ints. -/
namespace TH
open PySem PySem.Spec PyProof.Rows L2 PpSet
/-- one turn's element joins the set at D -/
def Join (w : World) (D : Addr) (Nx : Hp → Prop) : VK := fun y G =>
  ∃ (k : Int) (S : Int → Bool) (c : Nat), y = .int k ∧ G D = some (SetO w D S c) ∧ c + 1 < scanBound ∧
    Nx (upd G D (SetO w D (fun j => S j || decide (j = k)) (if S k = true then c else c + 1)))
/-- one turn of the block -/
def TurnSc (w : World) (g : TG) (tt : TT) (te : TE) (vs : List Nat) (σ : L2.St) (D : Addr) (Nx : Hp → Prop) : V → Hp → Prop := fun x G =>
  g x (wipe σ vs) G fun σ2 G2 => wipe σ2 vs = wipe σ vs ∧
    tt σ2 G2 fun b G3 => if b = true then te σ2 G3 (Join w D Nx) else Nx G3
def LoopSc (w : World) (g : TG) (tt : TT) (te : TE) (vs : List Nat) (σ : L2.St) (D : Addr) (J : It) (H1 : Hp) (Qd : Hp → Prop) : Prop :=
  ∃ W : Nat → Nat → Hp → Prop, (∃ m, W 0 m (upd H1 D (SetO w D (fun _ => false) 0))) ∧
    ∀ i m G, W i m G → (J.stop i G ∧ Qd G) ∨
      (J.go i G ∧ ∃ Nx : Hp → Prop, (∀ G', Nx G' → ∃ m', m' < m ∧ W (i + 1) m' G') ∧
        ∀ x G', J.yld i G x G' → TurnSc w g tt te vs σ D Nx x G')
def tScI (w : World) (wi : TI) (g : TG) (tt : TT) (te : TE) (vs : List Nat) : TE := fun σ H Q =>
  wi σ H fun J H1 => ∀ D, H1 D = none → LoopSc w g tt te vs σ D J H1 (Q (.ref D))
section
variable {X : Cx}
theorem join_add {pins : List (Addr × Obj)} {σ : L2.St} {G : Hp} {s : Shared} {D : Addr} {Nx : Hp → Prop} {y : V} {z : Value} {Q : Value → Shared → Prop}
    (I : Inv X pins σ G s) (r : RelV y z) (j : Join X.w D Nx y G)
    (k : ∀ s' G', Inv X pins σ G' s' → Nx G' → ∀ v, Q v s') :
    wpAny (model X.prog X.w) X.A (call (.builtin "set.add") [.ref D, z]) Q X.xe s := by
  obtain ⟨i, S, c, rfl, hD, hc, nx⟩ := j
  refine thn (mt_sadd pins s σ G (.ref D) [.int i] (.ref D) [z] (fun _ G' => Nx G') I rfl (.cons r .nil) ⟨D, i, S, c, rfl, rfl, hD, hc, nx⟩) ?_
  rintro v s' ⟨x, G', I', -, q⟩
  exact k s' G' I' q v
variable {elt tg iter : Expr} {ifs : List Expr} {scope : Scope} {own : List (PySem.Str × Nat)} {pos pos' : Pos} {wi : TI} {g : TG} {tt : TT} {te : TE}
theorem scI_core {pins : List (Addr × Obj)} {s : Shared} {σ : L2.St} {H : Hp} {Q : VK} {use : Option (Value → Sem Unit)} {Qf : Value → Shared → Prop}
    (hc : X.calm = true) (hN : X.N.Nodup) (I : Inv X pins σ H s)
    (hi : PI X tg iter wi) (ok : BlkOk X.N X.env.scope scope own)
    (hg : ∀ (s : Shared) (H : Hp) (C : Addr) (cl : List (PySem.Str × Addr)) (fp : List Addr),
      PG (X.blk s H scope (compEnvC scope cl C X.env) fp) tg g)
    (ht : ∀ (s : Shared) (H : Hp) (C : Addr) (cl : List (PySem.Str × Addr)) (fp : List Addr),
      PTs (X.blk s H scope (compEnvC scope cl C X.env) fp) ifs tt)
    (he : ∀ (s : Shared) (H : Hp) (C : Addr) (cl : List (PySem.Str × Addr)) (fp : List Addr),
      PE (X.blk s H scope (compEnvC scope cl C X.env) fp) elt te)
    (hs : ∀ x, foldedSetIterable iter X.env x = pure x)
    (h : tScI X.w wi g tt te (own.map (·.2)) σ H Q)
    (fin : ∀ D C s' m G, Inv X pins σ G s' → Q (.ref D) G → s'.heap.Ns C m → FpOk X pins G C →
      compPost (model X.prog X.w) X.A X.xe use Qf (.ref D) C (.ok .next) s') :
    wpAny (model X.prog X.w) X.A (comprehension (.SetComp elt [⟨tg, iter, ifs, 0⟩] scope pos) scope X.env pos'
      (newSet (.type "set")) false (eval iter X.env) use) Qf X.xe s := by
  have cellsOk : ∀ y ∈ scope.names, y.2 = .free → ∃ c, X.env.cells.lookup y.1 = some c := fun y hy e =>
    (ok.free y hy e).elim (fun k => I.ok.has _ (.inl k)) (fun k => I.ok.has _ (.inr k))
  refine wpAny_comprehension_free (use := use) rfl hs (closure_ok cellsOk) ok.kind (fun y hy e => by rw [ok.uniq y hy, e]) ?_
  refine thn (hi.run pins s σ H _ I h) fun xv s1 hx => thn hx ?_
  rintro itv s2 ⟨it, fp, tn, J, H2, rfl, I2, T, st2, f2, q⟩
  refine newSet_ok (newEnv_comp ?_)
  generalize hD : s2.heap.objs.size = D
  have free2 : H2 D = none := I2.hok.fresh (Nat.le_of_eq hD)
  obtain ⟨W, ⟨m0, w0⟩, turn⟩ := q D free2
  generalize hob : ({ cls := .type "set", dict := none, data := .set #[] 0 (.fresh 0 0 (!X.w.params.followText "set-order")) } : Obj) = ob
  generalize hE : SetO X.w D (fun _ => false) 0 = emp at w0
  have I3 : Inv X pins σ (upd H2 D emp) { s2 with heap := s2.heap.push ob } := by
    subst hob hE
    refine I2.laid (t' := s2.toks) (fun b o e => Heap.get?_push_of_some _ e) (Nat.le_of_eq hD) ?_
    subst hD
    exact setO_new (setR_fresh X.w)
  generalize hs3 : ({ s2 with heap := s2.heap.push ob } : Shared) = s3 at I3
  have h3 : s3.heap = s2.heap.push ob := by rw [← hs3]
  have older : ∀ b ∈ fp, b < s2.heap.objs.size := fun b hb =>
    have ⟨_, e, _⟩ := T.obj _ _ st2 b hb
    Heap.lt_size e
  have f3 : ∀ b ∈ fp, FpOk X pins (upd H2 D emp) b ∧ b < s3.heap.objs.size := by
    intro b hb
    have lt := older b hb
    have ne : b ≠ D := by rw [← hD]; exact Nat.ne_of_lt lt
    refine ⟨⟨(upd_ne ne).trans (f2 b hb).1, (f2 b hb).2⟩, ?_⟩
    rw [h3, Heap.size_push]
    exact Nat.lt_succ_of_lt lt
  have st3 : tn 0 s3.heap := T.keep _ _ _ st2 fun b _ o e => by
    rw [h3]
    exact Heap.get?_push_of_some _ e
  have I4 := block_start I3 ok hN f3
  have pg := hg s3 (upd H2 D emp) s3.heap.objs.size (cellsFrom (s3.heap.objs.size + 1) scope.names (cloFrom X.env.cells scope.names [])) fp
  have pt := ht s3 (upd H2 D emp) s3.heap.objs.size (cellsFrom (s3.heap.objs.size + 1) scope.names (cloFrom X.env.cells scope.names [])) fp
  have pe := he s3 (upd H2 D emp) s3.heap.objs.size (cellsFrom (s3.heap.objs.size + 1) scope.names (cloFrom X.env.cells scope.names [])) fp
  show codeAny _ _ (.compStart (.SetComp elt [⟨tg, iter, ifs, 0⟩] scope pos) 0 (.ref it) (.ref D)
      (compEnvC scope (cellsFrom (s3.heap.objs.size + 1) scope.names (cloFrom X.env.cells scope.names [])) s3.heap.objs.size X.env))
    (compPost (model X.prog X.w) X.A X.xe use Qf (.ref D) s3.heap.objs.size)
    { s3 with heap := pushCells (s3.heap.push { cls := .type "dict", data := .dict #[] }) scope.names }
  have out3 : ∀ b ∈ fp, (upd H2 D emp) b = none := fun b hb => (f3 b hb).1.1
  generalize hce : compEnvC scope (cellsFrom (s3.heap.objs.size + 1) scope.names (cloFrom X.env.cells scope.names [])) s3.heap.objs.size X.env = ce at I4 pg pt pe ⊢
  have locC : ce.locals = s3.heap.objs.size := by subst hce; rfl
  generalize hH3 : upd H2 D emp = H3 at I3 I4 pg pt pe w0 out3 f3
  generalize hs4 : ({ s3 with heap := pushCells (s3.heap.push { cls := .type "dict", data := .dict #[] }) scope.names } : Shared) = s4 at I4 ⊢
  have st4 : tn 0 s4.heap := T.keep _ _ _ st3 fun b _ o e => by
    rw [← hs4]
    exact pushCells_keeps _ _ _ _ (Heap.get?_push_of_some _ e)
  have itOk : ∀ {σ' : L2.St} {G : Hp} {s' : Shared}, Inv (X.blk s3 H3 scope ce fp) [] σ' G s' → (∀ b ∈ fp, G b = none) →
      ∀ b ∈ fp, FpOk (X.blk s3 H3 scope ce fp) [] G b := fun {σ' G s'} I' out b hb =>
    ⟨out b hb, (I'.ok.exf b hb).1, I'.ok.exfs b hb, .inl hb, fun x c e => (I'.ok.exf b hb).2 x c e, fun p hp => nomatch (show p ∈ ([] : List (Addr × Obj)) from hp)⟩
  have loop : codeAny (model X.prog X.w) X.A (.compLoop (.SetComp elt [⟨tg, iter, ifs, 0⟩] scope pos) 0 (.ref it) (.ref D) ce)
      (compPost (model X.prog X.w) X.A X.xe use Qf (.ref D) s3.heap.objs.size) s4 := by
    refine compLoopS_any (fun n s' => ∃ i G, Inv (X.blk s3 H3 scope ce fp) [] (wipe σ (own.map (·.2))) G s' ∧
      tn i s'.heap ∧ (∀ b ∈ fp, G b = none) ∧ W i n G) ?_ m0 ⟨0, H3, I4, st4, out3, w0⟩
    rintro n s5 ⟨i, G5, I5, st5, out5, w5⟩
    obtain ⟨stop, qq⟩ | ⟨go, Nx, hNx, step⟩ := turn i n G5 w5
    · have td := T.done (X.blk s3 H3 scope ce fp) rfl rfl rfl hc i [] s5 _ G5 (fun _ _ => False) I5 (itOk I5 out5) st5 stop
      refine thnF td ?_
      rintro r s6 ⟨rfl, I6⟩
      have I7 : Inv X pins σ G5 s6 := I3.call' (ch := fp) I6.os I6.base I6.hok I6.bare fun b hb =>
        have z := (f3 b hb).1
        ⟨z.2.2.2.1, z.2.1, z.2.2.2.2.1, z.2.2.2.2.2⟩
      have out : G5 s3.heap.objs.size = none := locC ▸ I6.free
      obtain ⟨m, hn, -⟩ := I6.loc
      have hn2 : s6.heap.Ns s3.heap.objs.size m := locC ▸ hn
      exact fin D s3.heap.objs.size s6 m G5 I7 qq hn2 (I3.fpOk (Nat.le_refl _) out)
    · have ti := T.item (X.blk s3 H3 scope ce fp) rfl rfl rfl hc i [] s5 _ G5 (fun _ _ => False) I5 (itOk I5 out5) st5 go
      refine thnF ti ?_
      rintro r s6 ⟨u, rfl, h6⟩
      refine thnF h6 ?_
      rintro _ s7 ⟨x, G7, I7, r7, y7, st7, out7⟩
      have I7' := I7.pinned (itOk I7 out7) (T.obj _ _ st7)
      refine thnF (pg.run _ s7 _ G7 x u _ I7' r7 (step x G7 y7)) ?_
      rintro _ s8 ⟨σ8, G8, I8, hw8, q8⟩
      refine thnF (pt.run _ s8 σ8 G8 _ I8 q8) ?_
      rintro b s9 ⟨G9, I9, q9⟩
      have again : ∀ {s' : Shared} {G : Hp}, Inv (X.blk s3 H3 scope ce fp) ([] ++ pinsAt fp s7.heap) σ8 G s' → Nx G →
          ∃ m, m < n ∧ ∃ i G, Inv (X.blk s3 H3 scope ce fp) [] (wipe σ (own.map (·.2))) G s' ∧ tn i s'.heap ∧ (∀ b ∈ fp, G b = none) ∧ W i m G := by
        intro s' G I' nx
        obtain ⟨m', lt, w'⟩ := hNx G nx
        have pinned : ∀ b ∈ fp, ∀ o, s7.heap.get? b = some o → s'.heap.get? b = some o ∧ G b = none := fun b hb o e =>
          have z := I'.pin (b, o) (List.mem_append_right _ (List.mem_append_right _ (mem_pinsAt hb e)))
          ⟨z.1, z.2.1⟩
        have hl : (wipe σ (own.map (·.2))).length = σ8.length := by rw [← hw8, wipe_length]
        refine ⟨m', lt, i + 1, G, (I'.unpinned (pins := [])).weak hl ?_, T.keep _ _ _ st7 fun b hb o e => (pinned b hb o e).1, ?_, w'⟩
        · intro j v e
          rw [← hw8] at e
          exact (wipe_some e).1
        · intro b hb
          obtain ⟨o, e, -⟩ := T.obj _ _ st7 b hb
          exact (pinned b hb o e).2
      cases b with
      | false =>
        rw [if_neg (by decide)] at q9 ⊢
        exact again I9 q9
      | true =>
        rw [if_pos rfl] at q9 ⊢
        refine thnF (pe.run _ s9 σ8 G9 _ I9 q9) ?_
        rintro z s10 ⟨yv, G10, I10, r10, jn⟩
        exact thnF (join_add (X := X.blk s3 H3 scope ce fp) (Q := fun _ s' => ∃ G', Inv (X.blk s3 H3 scope ce fp) ([] ++ pinsAt fp s7.heap) σ8 G' s' ∧ Nx G') I10 r10 jn fun s' G' I' nx _ => ⟨G', I', nx⟩)
          fun _ s' ⟨G', I', nx⟩ => again I' nx
  exact codeAny_compStart_set loop (T.self X.A 0 _ _ _ st4 loop)
theorem pe_scI (hc : X.calm = true) (hN : X.N.Nodup) (hi : PI X tg iter wi) (ok : BlkOk X.N X.env.scope scope own)
    (hg : ∀ (s : Shared) (H : Hp) (C : Addr) (cl : List (PySem.Str × Addr)) (fp : List Addr),
      PG (X.blk s H scope (compEnvC scope cl C X.env) fp) tg g)
    (ht : ∀ (s : Shared) (H : Hp) (C : Addr) (cl : List (PySem.Str × Addr)) (fp : List Addr),
      PTs (X.blk s H scope (compEnvC scope cl C X.env) fp) ifs tt)
    (he : ∀ (s : Shared) (H : Hp) (C : Addr) (cl : List (PySem.Str × Addr)) (fp : List Addr),
      PE (X.blk s H scope (compEnvC scope cl C X.env) fp) elt te)
    (hs : ∀ x, foldedSetIterable iter X.env x = pure x := by intro _; rfl) :
    PE X (.SetComp elt [⟨tg, iter, ifs, 0⟩] scope pos) (tScI X.w wi g tt te (own.map (·.2))) := by
  refine ⟨fun pins s σ H Q I h => ?_⟩
  rw [eval_SetComp]
  refine scI_core hc hN I hi ok hg ht he hs h ?_
  intro D C s' m G I' q hn f
  refine ⟨m, hn, fun h'' sb => ?_⟩
  obtain ⟨f0, f1, f2, f3, f4, f5⟩ := f
  exact ⟨.ref D, G, I'.turned (t' := s'.toks) (fun b o hb e => (sb.2 b hb).trans e) f0 f1 f3 f4 f5, rfl, q⟩
end
abbrev Ex := Evl.Ex
abbrev St := L2.St
/-! ### a def of the text: where it stands -/
structure FA (K : PySem.W.Frag) (mg : Str → Option Value) (x : Str) (st : Stmt) (ps : List Str) where
  f : Addr
  fd : FuncData
  F : FunD K x x (defArgs st) (defBody st) (defScope st) [] [] f fd
  b : Binds K fd ps []
  g : mg x = some (.ref f)
theorem pd_get {α β : Type} {F : α → β → Prop} : ∀ {xs : List α} {ys : List β} {i : Nat} {x : α}, Paired F xs ys → xs[i]? = some x → ∃ y, ys[i]? = some y ∧ F x y
  | _, _, _, _, .nil, e => by simp at e
  | _, _, 0, x, .cons (b := b) r _, e => by
    have e2 : _ = x := Option.some.inj e
    subst e2
    exact ⟨b, rfl, r⟩
  | _, _, i + 1, x, .cons _ t, e => pd_get (i := i) t e
theorem pd_app {α β : Type} {F : α → β → Prop} : ∀ {xs xs' : List α} {ys ys' : List β}, Paired F xs ys → Paired F xs' ys' → Paired F (xs ++ xs') (ys ++ ys')
  | _, _, _, _, .nil, h => h
  | _, _, _, _, .cons r t, h => .cons r (pd_app t h)
/-! ### what is kept -/
/-- tuples stand as they stood -/
def TrT (K : PySem.W.Frag) (H H' : Hp) : Prop := ∀ a xs, SqT K H a xs → SqT K H' a xs
def TrL (K : PySem.W.Frag) (H H' : Hp) : Prop := ∀ a xs, SqL K H a xs → SqL K H' a xs
/-- all but the object at r -/
def Fr (r : Addr) (H H' : Hp) : Prop := ∀ a o, a ≠ r → H a = some o → H' a = some o
section
variable {K : PySem.W.Frag} {H H' H1 H2 : Hp} {r : Addr}
theorem Fr.refl : Fr r H H := fun _ _ _ h => h
theorem Fr.trans (a : Fr r H H1) (b : Fr r H1 H2) : Fr r H H2 := fun x o n h => b x o n (a x o n h)
theorem Fr.of (e : Ex H H') : Fr r H H' := fun a o _ h => e a o h
theorem TrT.of (e : Ex H H') : TrT K H H' := fun _ _ h => Evl.ex_t e h
theorem TrL.of (e : Ex H H') : TrL K H H' := fun _ _ h => Evl.ex_l e h
theorem TrT.refl : TrT K H H := fun _ _ h => h
theorem TrT.trans (a : TrT K H H1) (b : TrT K H1 H2) : TrT K H H2 := fun x xs h => b x xs (a x xs h)
theorem TrT.fr {xs : List V} (hr : H r = some (.lst xs)) (e : Fr r H H') : TrT K H H' := by
  intro a ys h
  have ne : ∀ o, H a = some o → (∀ zs, o ≠ .lst zs) → a ≠ r := fun o q n z => by
    subst z
    rw [hr] at q
    exact n xs (Option.some.inj q).symm
  rcases h with (h | ⟨o, h⟩) | h
  · exact .inl (.inl (e a _ (ne _ h fun _ z => nomatch z) h))
  · exact .inl (.inr ⟨o, e a _ (ne _ h fun _ z => nomatch z) h⟩)
  · exact .inr h
theorem TrT.upd {xs ys : List V} (hr : H r = some (.lst xs)) : TrT K H (upd H r (.lst ys)) :=
  TrT.fr hr fun a o n h => by rw [upd_ne n]; exact h
theorem TrT.newl {o : HO} (hr : H r = none) : TrT K H (L2.upd H r o) := TrT.of (Evl.Ex.new hr)
theorem Fr.upd {o : HO} : Fr r H (L2.upd H r o) := fun a u n h => by rw [upd_ne n]; exact h
/-- an object that the first heap does not have may change -/
theorem Fr.mut {q : Addr} {o : HO} (e : Fr r H H') (h : H q = none) : Fr r H (L2.upd H' q o) := fun a u n ha => by
  rw [upd_ne (ne_of_none ha h)]
  exact e a u n ha
end
/-! ### data: pairs, changes, zones -/
def PV (K : PySem.W.Frag) (H : Hp) (v : V) (p : Int × Int) : Prop := ∃ a, v = .ref a ∧ SqT K H a [.int p.1, .int p.2]
abbrev PVs (K : PySem.W.Frag) (H : Hp) : List V → List (Int × Int) → Prop := Paired (PV K H)
def CsV (K : PySem.W.Frag) (H : Hp) (v : V) (cs : List (Int × Int)) : Prop := ∃ a xs, v = .ref a ∧ SqT K H a xs ∧ PVs K H xs cs
abbrev Zone := Int × List (Int × Int)
def ZV (K : PySem.W.Frag) (H : Hp) (v : V) (z : Zone) : Prop := ∃ a c, v = .ref a ∧ SqT K H a [.int z.1, c] ∧ CsV K H c z.2
section
variable {K : PySem.W.Frag} {H H' : Hp} {v : V}
theorem PV.tr {p : Int × Int} (e : TrT K H H') (h : PV K H v p) : PV K H' v p := by
  obtain ⟨a, q, h⟩ := h
  exact ⟨a, q, e _ _ h⟩
theorem PVs.tr {vs : List V} {ps : List (Int × Int)} (e : TrT K H H') (h : PVs K H vs ps) : PVs K H' vs ps :=
  L2.Paired.mapP h fun _ _ q => q.tr e
theorem CsV.tr {cs : List (Int × Int)} (e : TrT K H H') (h : CsV K H v cs) : CsV K H' v cs := by
  obtain ⟨a, xs, q, h, k⟩ := h
  exact ⟨a, xs, q, e _ _ h, k.tr e⟩
theorem ZV.tr {z : Zone} (e : TrT K H H') (h : ZV K H v z) : ZV K H' v z := by
  obtain ⟨a, c, q, h, k⟩ := h
  exact ⟨a, c, q, e _ _ h, k.tr e⟩
theorem PVs.len {vs : List V} {ps : List (Int × Int)} (h : PVs K H vs ps) : vs.length = ps.length := Paired.length h
end
/-! ### readings, step by step -/
section
variable {σ : L2.St} {H : Hp} {n : St → Hp → Prop} {r : VK} {b c : St → Hp → Prop} {Q : VK}
theorem g_seq {t u : TS} (h : t (Ends.mk (u (Ends.mk n r b c)) r b c) σ H) : tSeq t u (Ends.mk n r b c) σ H := h
theorem g_next (h : n σ H) : tNext (Ends.mk n r b c) σ H := h
theorem g_brk (h : b σ H) : tBreak (Ends.mk n r b c) σ H := h
theorem g_cont (h : c σ H) : tCont (Ends.mk n r b c) σ H := h
theorem g_asg {te : TE} {g : TG} (h : te σ H fun x H1 => g x σ H1 n) : tAsg te g (Ends.mk n r b c) σ H := h
theorem g_ret {te : TE} (h : te σ H r) : tRet te (Ends.mk n r b c) σ H := h
theorem g_retN (h : r .non H) : tRetN (Ends.mk n r b c) σ H := h
theorem g_drop {te : TE} (h : te σ H fun _ H1 => n σ H1) : tDrop te (Ends.mk n r b c) σ H := h
theorem g_ifS {tc : TT} {t u : TS} (h : tc σ H fun k H1 => if k = true then t (Ends.mk n r b c) σ H1 else u (Ends.mk n r b c) σ H1) : tIfS tc t u (Ends.mk n r b c) σ H := h
theorem g_par {i j : Nat} {ta : TA} (h : ta σ H fun vs H1 => ∃ v w, vs = [v, w] ∧ n ((σ.set i (some v)).set j (some w)) H1) : tPar i j ta (Ends.mk n r b c) σ H := h
theorem g_par_ {v w : V} {N : V → V → Prop} (h : N v w) : ∃ v' w', [v, w] = [v', w'] ∧ N v' w' := ⟨v, w, rfl, h⟩
theorem g_var {i : Nat} {v : V} (e : σ[i]? = some (some v)) (h : Q v H) : tVar i σ H Q := ⟨v, e, h⟩
theorem g_c {v : V} (h : Q v H) : tC v σ H Q := h
theorem g_op {rr : R2} {ta tb : TE} (h : ta σ H fun x H1 => tb σ H1 fun y H2 => rr x y H2 Q) : tOp rr ta tb σ H Q := h
theorem g_un {rr : V → Hp → VK → Prop} {ta : TE} (h : ta σ H fun x H1 => rr x H1 Q) : tUn rr ta σ H Q := h
theorem g_I0 {g : Int → Int → V} {i j : Int} (h : Q (g i j) H) : rI0 g (.int i) (.int j) H Q := ⟨i, j, rfl, rfl, h⟩
theorem g_I {C : Int → Int → Prop} {g : Int → Int → V} {i j : Int} (k : C i j) (h : Q (g i j) H) : rI C g (.int i) (.int j) H Q := ⟨i, j, rfl, rfl, k, h⟩
theorem g_U {g : Int → V} {i : Int} (h : Q (g i) H) : rU g (.int i) H Q := ⟨i, rfl, h⟩
theorem dec_int {i j : Int} : decide (V.int i = V.int j) = decide (i = j) := decide_eq_decide.mpr ⟨fun e => V.int.inj e, fun e => by rw [e]⟩
theorem dec_str {i j : Str} : decide (V.str i = V.str j) = decide (i = j) := decide_eq_decide.mpr ⟨fun e => V.str.inj e, fun e => by rw [e]⟩
theorem dec_bl {i j : Bool} : decide (V.bl i = V.bl j) = (i == j) := by cases i <;> cases j <;> rfl
theorem g_eqI {i j : Int} (h : Q (.bl (decide (i = j))) H) : rEq (.int i) (.int j) H Q := ⟨rfl, by rw [dec_int]; exact h⟩
theorem g_neI {i j : Int} (h : Q (.bl (!decide (i = j))) H) : rNe (.int i) (.int j) H Q := ⟨rfl, by rw [dec_int]; exact h⟩
theorem g_eqS {i j : Str} (h : Q (.bl (decide (i = j))) H) : rEq (.str i) (.str j) H Q := ⟨rfl, by rw [dec_str]; exact h⟩
theorem g_neS {i j : Str} (h : Q (.bl (!decide (i = j))) H) : rNe (.str i) (.str j) H Q := ⟨rfl, by rw [dec_str]; exact h⟩
theorem g_eqB {i j : Bool} (h : Q (.bl (i == j)) H) : rEq (.bl i) (.bl j) H Q := ⟨rfl, by rw [dec_bl]; exact h⟩
theorem g_neB {i j : Bool} (h : Q (.bl (!(i == j))) H) : rNe (.bl i) (.bl j) H Q := ⟨rfl, by rw [dec_bl]; exact h⟩
theorem g_test {t : TE} {R : Bool → Hp → Prop} (h : t σ H fun x H' => ∃ k, x = .bl k ∧ R k H') : tTest t σ H R := h
theorem g_B {t : TE} {R : Bool → Hp → Prop} (h : t σ H fun x H' => ∃ k, x = .bl k ∧ R k H') : tB t σ H R := h
theorem g_bl {k : Bool} {R : Bool → Prop} (h : R k) : ∃ k', V.bl k = V.bl k' ∧ R k' := ⟨k, rfl, h⟩
theorem g_not {t : TT} {R : Bool → Hp → Prop} (h : t σ H fun k H1 => R (!k) H1) : tNot t σ H R := h
theorem g_and {t u : TT} {R : Bool → Hp → Prop} (h : t σ H fun k H1 => if k = true then u σ H1 R else R false H1) : tAnd t u σ H R := h
theorem g_or {t u : TT} {R : Bool → Hp → Prop} (h : t σ H fun k H1 => if k = true then R true H1 else u σ H1 R) : tOr t u σ H R := h
theorem g_andV {ta tb : TE} (h : ta σ H fun x H1 => ∃ k, x = .bl k ∧ if k = true then tb σ H1 Q else Q (.bl false) H1) : tAndV ta tb σ H Q := h
theorem g_orV {ta tb : TE} (h : ta σ H fun x H1 => ∃ k, x = .bl k ∧ if k = true then Q (.bl true) H1 else tb σ H1 Q) : tOrV ta tb σ H Q := h
theorem g_notV {ta : TE} (h : ta σ H fun x H1 => ∃ k, x = .bl k ∧ Q (.bl (!k)) H1) : tNotV ta σ H Q := h
theorem g_yes {R : Bool → Hp → Prop} (h : R true H) : tYes σ H R := h
theorem if_tt {A B : Prop} (h : A) : if true = true then A else B := h
theorem if_ff {A B : Prop} (h : B) : if false = true then A else B := h
theorem if_nt {A B : Prop} (h : B) : if (!true) = true then A else B := h
theorem if_nf {A B : Prop} (h : A) : if (!false) = true then A else B := h
theorem g_asg2 {te : TE} {g1 g2 : TG} (h : te σ H fun x H1 => g1 x σ H1 fun σ1 H2 => g2 x σ1 H2 n) : tAsg2 te g1 g2 (Ends.mk n r b c) σ H := h
theorem g_par3 {i j l : Nat} {ta : TA} (h : ta σ H fun vs H1 => ∃ u v w, vs = [u, v, w] ∧ n (((σ.set i (some u)).set j (some v)).set l (some w)) H1) : tPar3 i j l ta (Ends.mk n r b c) σ H := h
theorem g_par3_ {u v w : V} {N : V → V → V → Prop} (h : N u v w) : ∃ u' v' w', [u, v, w] = [u', v', w'] ∧ N u' v' w' := ⟨u, v, w, rfl, h⟩
theorem g_chain {rr rr' : R2} {ta tb tc : TE} (h : ta σ H fun x H1 => tb σ H1 fun y H2 => rr x y H2 fun z H3 => ∃ k, z = .bl k ∧ (if k = true then tc σ H3 fun v H4 => rr' y v H4 Q else Q (.bl false) H3)) : tChain rr rr' ta tb tc σ H Q := h
theorem g_if {t : TT} {ta tb : TE} (h : t σ H fun k H1 => if k = true then ta σ H1 Q else tb σ H1 Q) : tIf t ta tb σ H Q := h
theorem g_nil {R : List V → Hp → Prop} (h : R [] H) : tNil σ H R := h
theorem g_cons {ta : TE} {tr : TA} {R : List V → Hp → Prop} (h : ta σ H fun x H1 => tr σ H1 fun xs H2 => R (x :: xs) H2) : tCons ta tr σ H R := h
def NewT (xs : List V) (H : Hp) (Q : VK) : Prop := xs.length ≤ sizeLine ∧ ∀ p, H p = none → Q (.ref p) (upd H p (.tup xs))
def NewL (xs : List V) (H : Hp) (Q : VK) : Prop := xs.length ≤ sizeLine ∧ ∀ p, H p = none → Q (.ref p) (upd H p (.lst xs))
theorem g_tup {ta : TA} (h : ta σ H fun xs H1 => NewT xs H1 Q) : tTup ta σ H Q := h
theorem g_lst {ta : TA} (h : ta σ H fun xs H1 => NewL xs H1 Q) : tLst ta σ H Q := h
theorem g_newT {xs : List V} (l : xs.length ≤ 100000) (h : ∀ p H', H p = none → Ex H H' → H' p = some (.tup xs) → Q (.ref p) H') :
    NewT xs H Q := ⟨Nat.le_trans l (by decide), fun p hp => h p _ hp (Evl.Ex.new hp) upd_same⟩
theorem g_newL {xs : List V} (l : xs.length ≤ 100000) (h : ∀ p H', H p = none → Ex H H' → H' p = some (.lst xs) → Q (.ref p) H') :
    NewL xs H Q := ⟨Nat.le_trans l (by decide), fun p hp => h p _ hp (Evl.Ex.new hp) upd_same⟩
theorem g_CB {rr : List V → Hp → VK → Prop} {t : TA} (h : t σ H fun vs H1 => rr vs H1 Q) : tCB rr t σ H Q := h
theorem g_call {sp : Sp} {E : XK} {t : TA} (h : t σ H fun vs H1 => sp vs H1 Q E) : tCall sp [] E t σ H Q := by
  show t σ H fun vs H1 => sp (vs ++ []) H1 Q E
  have e : (fun vs H1 => sp (vs ++ []) H1 Q E) = fun vs H1 => sp vs H1 Q E := by
    funext vs H1
    rw [List.append_nil]
  rw [e]
  exact h
theorem g_name {i : Nat} {v : V} (h : n (σ.set i (some v)) H) : gName i v σ H n := h
theorem g_gtup {K : PySem.W.Frag} {a : Addr} {xs : List V} {k : Nat} {t : TGs} (q : SqT K H a xs) (l : xs.length = k) (h : t xs σ H n) : gTup K k t (.ref a) σ H n := ⟨a, xs, rfl, q, l, h⟩
theorem g_gnil (h : n σ H) : gNil [] σ H n := ⟨rfl, h⟩
theorem g_gcons {t : TG} {u : TGs} {v : V} {rest : List V} (h : t v σ H fun σ' H' => u rest σ' H' n) : gCons t u (v :: rest) σ H n := ⟨v, rest, rfl, h⟩
theorem g_for {wi : TI} {g : TG} {tb : TS} (h : wi σ H fun J H1 => ∃ W : Nat → Nat → St → Hp → Prop, (∃ m, W 0 m σ H1) ∧ ∀ i m σ H, W i m σ H →
    (J.stop i H ∧ n σ H) ∨ (J.go i H ∧ ∃ N : St → Hp → Prop, (∀ σ' H', N σ' H' → ∃ m', m' < m ∧ W (i + 1) m' σ' H') ∧ ∀ x H', J.yld i H x H' → g x σ H' fun σ2 H2 => tb (Ends.mk N r n N) σ2 H2)) :
    tFor wi g tb (Ends.mk n r b c) σ H := h
theorem g_iTup {K : PySem.W.Frag} {tl : TE} {R : It → Hp → Prop} (h : tl σ H fun x H1 => ∃ a, x = .ref a ∧ (∃ xs, SqT K H1 a xs) ∧ R (Itt K a) H1) : iTup K tl σ H R := h
theorem g_iList {K : PySem.W.Frag} {tl : TE} {R : It → Hp → Prop} (h : tl σ H fun x H1 => ∃ a, x = .ref a ∧ (∃ xs, SqL K H1 a xs) ∧ R (Itl K a) H1) : iList K tl σ H R := h
theorem g_rng1 {ta : TA} {R : It → Hp → Prop} (h : ta σ H fun vs H1 => ∃ j : Int, vs = [.int j] ∧ -(2 ^ 62) ≤ j ∧ j < 2 ^ 62 ∧ R (Itr 0 j.toNat) H1) : iRng1 ta σ H R := h
theorem g_rng2 {ta : TA} {R : It → Hp → Prop} (h : ta σ H fun vs H1 => ∃ i j : Int, vs = [.int i, .int j] ∧ (-(2 ^ 62) ≤ i ∧ i < 2 ^ 62 ∧ -(2 ^ 62) ≤ j ∧ j < 2 ^ 62) ∧ R (Itr i (j - i).toNat) H1) : iRng2 ta σ H R := h
theorem g_ixT {K : PySem.W.Frag} {p : Addr} {xs : List V} {i : Int} {v : V} (q : SqT K H p xs) (e : atI xs i = some v) (h : Q v H) : rIxT K (.ref p) (.int i) H Q := ⟨p, xs, i, v, rfl, rfl, q, e, h⟩
theorem g_ixL {K : PySem.W.Frag} {p : Addr} {xs : List V} {i : Int} {v : V} (q : SqL K H p xs) (e : atI xs i = some v) (h : Q v H) : rIxL K (.ref p) (.int i) H Q := ⟨p, xs, i, v, rfl, rfl, q, e, h⟩
theorem if_t {A B : Prop} {k : Bool} (e : k = true) (h : A) : if k = true then A else B := by rw [if_pos e]; exact h
theorem if_f {A B : Prop} {k : Bool} (e : k = false) (h : B) : if k = true then A else B := by rw [if_neg (by rw [e]; decide)]; exact h
theorem if_b {A B : Prop} {k : Bool} (h1 : k = true → A) (h2 : k = false → B) : if k = true then A else B := by
  cases k with
  | true => exact if_t rfl (h1 rfl)
  | false => exact if_f rfl (h2 rfl)
end
/-! ### calls of built-ins, named -/
def r_int : List V → Hp → VK → Prop := fun xs H Q => (∃ i, xs = [.int i] ∧ Q (.int i) H) ∨ ∃ k, xs = [.bl k] ∧ Q (.int (if k then 1 else 0)) H
def r_abs : List V → Hp → VK → Prop := fun xs H Q => ∃ i, xs = [.int i] ∧ Q (.int (if i < 0 then -i else i)) H
def r_tupleOf (K : PySem.W.Frag) : List V → Hp → VK → Prop := fun xs H Q => ∃ p ys, xs = [.ref p] ∧
  ((SqL K H p ys ∧ ∀ l, H l = none → Q (.ref l) (upd H l (.tup ys))) ∨ (SqT K H p ys ∧ Q (.ref p) H))
def r_isN : R2 := fun x y H Q => y = .non ∧ Q (.bl (decide (x = .non))) H
def r_notN : R2 := fun x y H Q => y = .non ∧ Q (.bl (!decide (x = .non))) H
section
variable {K : PySem.W.Frag} {w : World} {H : Hp} {Q : VK} {a : Addr} {xs ys : List V}
theorem g_tupleOfL (q : SqL K H a xs) (h : ∀ p H', H p = none → Ex H H' → H' p = some (.tup xs) → Q (.ref p) H') : r_tupleOf K [.ref a] H Q :=
  ⟨a, xs, rfl, .inl ⟨q, fun p hp => h p _ hp (Evl.Ex.new hp) upd_same⟩⟩
theorem g_listOfT (q : SqT K H a xs) (h : ∀ p H', H p = none → Ex H H' → H' p = some (.lst xs) → Q (.ref p) H') : Evl.rListS K [.ref a] H Q :=
  ⟨a, xs, rfl, .inr q, fun p hp => h p _ hp (Evl.Ex.new hp) upd_same⟩
theorem g_lenL (q : SqL K H a xs) (h : Q (.int (xs.length : Int)) H) : Evl.rLenS K [.ref a] H Q := ⟨a, xs, rfl, .inl q, h⟩
theorem g_lenT (q : SqT K H a xs) (h : Q (.int (xs.length : Int)) H) : Evl.rLenS K [.ref a] H Q := ⟨a, xs, rfl, .inr q, h⟩
theorem g_cat {b : Addr} (q : H a = some (.lst xs)) (q' : H b = some (.lst ys)) (l : xs.length + ys.length ≤ 100000) (h : ∀ p H', H p = none → Ex H H' → H' p = some (.lst (xs ++ ys)) → Q (.ref p) H') : rCat (.ref a) (.ref b) H Q :=
  ⟨a, b, xs, ys, rfl, rfl, q, q', Nat.le_trans l (by decide), fun p hp => h p _ hp (Evl.Ex.new hp) upd_same⟩
theorem g_sortedSet {S : Int → Bool} {n : Nat} (q : H a = some (SetO w a S n)) (l : n < 64)
    (h : ∀ (ns : List Int) p H', H p = none → Ex H H' → H' p = some (.lst (ns.map V.int)) → ns.Pairwise (· < ·) → (∀ k : Int, k ∈ ns ↔ S k = true) → Q (.ref p) H') : rSortedSet w [.ref a] H Q :=
  ⟨a, S, n, rfl, q, l, fun ns p h1 h2 _ hp => h ns p _ hp (Evl.Ex.new hp) upd_same h1 h2⟩
theorem g_int {i : Int} (h : Q (.int i) H) : r_int [.int i] H Q := .inl ⟨i, rfl, h⟩
theorem g_abs {i : Int} (h : Q (.int (if i < 0 then -i else i)) H) : r_abs [.int i] H Q := ⟨i, rfl, h⟩
/-- isinstance(x, T), by the types' names -/
theorem g_isi {x : V} {T U : String} {b : Bool} (t : TyX K H x (.type T)) (k : kitB T U = some b) (h : Q (.bl b) H) : rIsi K [x, .ty U] H Q :=
  ⟨x, .ty U, _, _, b, rfl, .ty U, t, kit_ty k, h⟩
theorem g_isiT {x : V} {T U U' : String} {b b' : Bool} {tp : Addr} (h0 : H tp = some (.tup [.ty U, .ty U'])) (t : TyX K H x (.type T)) (k : kitB T U = some b) (k' : kitB T U' = some b') (h : Q (.bl (b || b')) H) : rIsiT K [x, .ref tp] H Q := by
  refine ⟨x, tp, _, _, _, b || b', rfl, h0, .cons (.ty U) (.cons (.ty U') .nil), t, ?_, h⟩
  refine kitAny_cons (kit_ty k) (fun e => ?_) (fun e => by rw [e] <;> rfl)
  refine kitAny_cons (kit_ty k') (fun e' => by rw [e, e']; exact kitAny_nil) (fun e' => by rw [e, e'] <;> rfl)
theorem g_same {x : V} (e : scal x x = true) (h : Q (.bl true) H) : rEq x x H Q := ⟨e, by rw [decide_eq_true (rfl : x = x)]; exact h⟩
theorem g_isB {i j : Bool} (h : Q (.bl (decide (i = j))) H) : rIsB (.bl i) (.bl j) H Q := ⟨i, j, rfl, rfl, h⟩
theorem g_notB {i j : Bool} (h : Q (.bl (!decide (i = j))) H) : rNotB (.bl i) (.bl j) H Q := ⟨i, j, rfl, rfl, h⟩
theorem g_isN {x : V} (h : Q (.bl (decide (x = .non))) H) : r_isN x .non H Q := ⟨rfl, h⟩
theorem g_notN {x : V} (h : Q (.bl (!decide (x = .non))) H) : r_notN x .non H Q := ⟨rfl, h⟩
theorem g_app {l : Addr} {y : V} (q : H l = some (.lst xs)) (h5 : xs.length < 100000) (h : ∀ H', H' = upd H l (.lst (xs ++ [y])) → Q .non H') : rAppend (.ref l) [y] H Q :=
  ⟨l, xs, y, rfl, rfl, q, Nat.lt_of_lt_of_le h5 (by decide), h _ rfl⟩
theorem g_tbm {σ : St} {to : TE} {t : TA} {rr : V → List V → Hp → VK → Prop} (h : to σ H fun x H1 => (∃ a xs, x = .ref a ∧ SqL K H1 a xs) ∧ t σ H1 fun xs H2 => rr x xs H2 Q) (mono : ∀ R R' : VK, (∀ v H', R v H' → R' v H') → to σ H R → to σ H R') : tBM K "list" rr to t σ H Q := by
  refine mono _ _ ?_ h
  rintro v H' ⟨⟨a, xs, rfl, q⟩, k⟩
  exact ⟨.inl ⟨rfl, xs, q⟩, k⟩
theorem g_tbmV {σ : St} {i : Nat} {t : TA} {rr : V → List V → Hp → VK → Prop} (e : σ[i]? = some (some (.ref a))) (q : SqL K H a xs) (h : t σ H fun ys H2 => rr (.ref a) ys H2 Q) : tBM K "list" rr (tVar i) t σ H Q :=
  ⟨_, e, .inl ⟨rfl, xs, q⟩, h⟩
theorem g_maxL {a : Addr} {ns : List Int} (q : SqL K H a (ns.map V.int)) (l : 0 < ns.length) (h : ∀ m, m ∈ ns → (∀ y, y ∈ ns → y ≤ m) → Q (.int m) H) : rMax K [.ref a] H Q := ⟨a, ns, rfl, q, l, h⟩
theorem g_intB {b : Bool} (h : Q (.int (if b then 1 else 0)) H) : r_int [.bl b] H Q := .inr ⟨b, rfl, h⟩
theorem g_gunl {σ : St} {a : Addr} {xs : List V} {k : Nat} {t : TGs} {n : St → Hp → Prop} (q : SqL K H a xs) (l : xs.length = k) (h : t xs σ H n) : gUnl K k t (.ref a) σ H n := ⟨a, xs, rfl, q, l, h⟩
theorem dp_int {v : V} {i : Int} (h : Dp K H v (.int i)) : v = .int i := by cases h; rfl
theorem cmul_r {i j : Int} (h1 : -(2 ^ 64) < j) (h2 : j < 2 ^ 64) : CMul i j := .inr ⟨h1, h2⟩
theorem cmul_l {i j : Int} (h1 : -(2 ^ 64) < i) (h2 : i < 2 ^ 64) : CMul i j := .inl ⟨h1, h2⟩
theorem cdiv_of {i j : Int} (h1 : 0 < j) (h2 : j < 2 ^ 64) : CDivW i j := wide_div (b := 64) h1 (by omega) (by decide) (by decide)
theorem cpow_of {i j : Int} (h1 : 0 ≤ j) (h2 : j ≤ 1000000) (h3 : i.natAbs < 2 ^ 64) : CPow i j := ⟨h1, h2, h3⟩
theorem g_sub {σ : St} {H : Hp} {to ti : TE} {t : TSet} {v : V} {n : St → Hp → Prop} (h : to σ H fun o H1 => ti σ H1 fun i H2 => t o i v H2 fun H3 => n σ H3) : gSub to ti t v σ H n := h
theorem g_setL {p : Addr} {xs : List V} {k : Int} {j : Nat} {v : V} {H : Hp} {R : Hp → Prop} (q : H p = some (.lst xs)) (e : ixN xs.length k = some j)
    (h : ∀ H', Fr p H H' → H' p = some (.lst (xs.set j v)) → R H') : rSetL (.ref p) (.int k) v H R := ⟨p, xs, k, j, rfl, rfl, q, e, h _ Fr.upd upd_same⟩
theorem room65 {k : Nat} {A : Around} (r : Room k A) : A.units + 65 < cLine := by
  have := r.un
  omega
theorem atI_of {α : Type} {xs : List α} {i : Int} {v : α} (h : 0 ≤ i) (e : xs[i.toNat]? = some v) : atI xs i = some v := by
  have q := atI_nat e
  rw [Int.toNat_of_nonneg h] at q
  exact q
theorem atI_end {α : Type} {xs : List α} {v : α} (e : xs.getLast? = some v) : atI xs (-1) = some v := by
  obtain ⟨ys, rfl⟩ := List.getLast?_eq_some_iff.mp e
  exact atI_last ys v
/-! ### the row of draws -/
/-- a row: its address, its script's, the script's ints -/
abbrev Rw := Addr × Addr × List Int
/-- the script: read, whatever the row is -/
def Scr (K : PySem.W.Frag) (H : Hp) (ρ : Rw) : Prop := ∀ H', Fr ρ.1 H H' → SqL K H' ρ.2.1 (ρ.2.2.map V.int)
def Row (K : PySem.W.Frag) (H : Hp) (ρ : Rw) : Prop := ∃ i s t : Int, H ρ.1 = some (.lst [.ref ρ.2.1, .int i, .int s, .int t]) ∧ Scr K H ρ ∧ 0 ≤ i ∧ 0 ≤ s ∧ s < 2 ^ 40
section
variable {K : PySem.W.Frag} {H H' H0 : Hp} {ρ : Rw}
theorem Scr.fr (h : Scr K H ρ) (e : Fr ρ.1 H H') : Scr K H' ρ := fun G f => h G (e.trans f)
theorem Row.lst (h : Row K H ρ) : ∃ xs, H ρ.1 = some (.lst xs) := by
  obtain ⟨i, s, t, h, _⟩ := h
  exact ⟨_, h⟩
theorem Row.tr (h : Row K H ρ) (e : Fr ρ.1 H H') : TrT K H H' := by
  obtain ⟨xs, h⟩ := h.lst
  exact TrT.fr h e
theorem Row.ex (h : Row K H ρ) (e : Ex H H') : Row K H' ρ := by
  obtain ⟨i, s, t, h, k, b⟩ := h
  exact ⟨i, s, t, e _ _ h, k.fr (Fr.of e), b⟩
/-- an object that the first heap does not have changes -/
theorem Row.mut {l : Addr} {o : HO} (h0 : Row K H0 ρ) (h : Row K H ρ) (e : Fr ρ.1 H0 H) (n : H0 l = none) : Row K (L2.upd H l o) ρ := by
  obtain ⟨i, s, t, h, k, b⟩ := h
  obtain ⟨xs, q⟩ := h0.lst
  obtain ⟨_, _, _, _, k0, _⟩ := h0
  have ne : ρ.1 ≠ l := ne_of_none q n
  exact ⟨i, s, t, by rw [upd_ne ne]; exact h, k0.fr (Fr.mut e n), b⟩
end
theorem ty_int {i : Int} : TyX K H (.int i) (.type "int") := .base (.int i)
theorem ty_str {i : Str} : TyX K H (.str i) (.type "str") := .base (.str i)
theorem ty_bl {i : Bool} : TyX K H (.bl i) (.type "bool") := .base (.bl i)
theorem ty_non : TyX K H .non (.type "NoneType") := .base .non
theorem ty_tup (q : SqT K H a xs) : TyX K H (.ref a) (.type "tuple") := by
  rcases q with (q | ⟨o, q⟩) | q
  · exact .base (.tup q)
  · exact .fTuple q
  · obtain ⟨o, its, n, e, c, _⟩ := q
    exact .kTuple e c
theorem ty_lst (q : H a = some (.lst xs)) : TyX K H (.ref a) (.type "list") := .base (.lst q)
end
theorem if_d {A B : Prop} {p : Prop} [Decidable p] (h1 : p → A) (h2 : ¬ p → B) : if decide p = true then A else B :=
  if_b (fun h => h1 (of_decide_eq_true h)) (fun h => h2 (of_decide_eq_false h))
theorem if_nd {A B : Prop} {p : Prop} [Decidable p] (h1 : ¬ p → A) (h2 : p → B) : if (!decide p) = true then A else B :=
  if_b (fun h => h1 fun q => by rw [decide_eq_true q] at h; cases h) (fun h => h2 (by
    cases e : decide p with
    | true => exact of_decide_eq_true e
    | false => rw [e] at h; cases h))
/-! ### a cut: what follows is shown once -/
section
variable {σ : St} {H : Hp} {n : St → Hp → Prop} {r : VK} {b c : St → Hp → Prop} {Q : VK}
theorem cutE {te : TE} (Post : VK) (ev : ∀ Q' : VK, (∀ v H', Post v H' → Q' v H') → te σ H Q') (k : ∀ v H', Post v H' → Q v H') : te σ H Q := ev Q k
theorem cutS {ts : TS} (Mid : St → Hp → Prop) (ev : ∀ n' : St → Hp → Prop, (∀ σ' H', Mid σ' H' → n' σ' H') → ts (Ends.mk n' r b c) σ H) (k : ∀ σ' H', Mid σ' H' → n σ' H') : ts (Ends.mk n r b c) σ H := ev n k
end
/-! ### dicts with written text keys -/
section
variable {σ : St} {H H0 : Hp} {Q : VK}
def DispEnd (p : Addr) (ps : List (V × V)) (H : Hp) (Q : VK) : Prop := H p = some (.dK []) ∧ ∃ kvs : List (Key × V), ps = kvs.map (fun kv => (kV kv.1, kv.2)) ∧ kvs.length ≤ 15 ∧ Q (.ref p) (upd H p (.dK (mergeK [] kvs)))
theorem g_disp {trs : List (TE × TE)} (h : ∀ p H', H p = none → Ex H H' → H' p = some (.dK []) → tPairs trs σ H' fun ps H2 => DispEnd p ps H2 Q) : tDisp trs σ H Q :=
  fun p hp => h p _ hp (Evl.Ex.new hp) upd_same
theorem g_pcons {tk tv : TE} {r : List (TE × TE)} {R : List (V × V) → Hp → Prop} (h : tk σ H fun x H1 => tv σ H1 fun y H2 => tPairs r σ H2 fun ps H3 => R ((x, y) :: ps) H3) : tPairs ((tk, tv) :: r) σ H R := h
theorem g_pnil {R : List (V × V) → Hp → Prop} (h : R [] H) : tPairs [] σ H R := h
theorem g_dispEnd {p : Addr} {ps : List (V × V)} (kvs : List (Key × V)) (n : H0 p = none) (e : Ex H0 H) (q : H p = some (.dK [])) (eq : ps = kvs.map (fun kv => (kV kv.1, kv.2))) (l : kvs.length ≤ 15)
    (h : ∀ H3, Ex H0 H3 → Fr p H H3 → H3 p = some (.dK (mergeK [] kvs)) → Q (.ref p) H3) : DispEnd p ps H Q := ⟨q, kvs, eq, l, h _ (Evl.Ex.mut e n) Fr.upd upd_same⟩
def DGetR (a : Addr) (z : V) (y : V) (H : Hp) (Q : VK) : Prop := ∃ o, DGet H a y o ∧ Q (o.getD z) H
theorem g_dget2 {td ty tx : TE} (h : td σ H fun x H1 => ∃ a, x = .ref a ∧ IsD H1 a ∧ ty σ H1 fun y H2 => tx σ H2 fun z H3 => DGetR a z y H3 Q) : tDGet2 td ty tx σ H Q := h
theorem g_isD {a : Addr} {kvs : List (Key × V)} {R : Addr → Prop} (q : H a = some (.dK kvs)) (h : R a) : ∃ a', V.ref a = V.ref a' ∧ IsD H a' ∧ R a' := ⟨a, rfl, .inl ⟨kvs, .inl q⟩, h⟩
theorem g_dgetR {a : Addr} {z : V} {x : Str} {kvs : List (Key × V)} (q : H a = some (.dK kvs)) (h : Q ((valV kvs (Sum.inr x : Key)).getD z) H) : DGetR a z (.str x) H Q := ⟨_, DGet.k (k := Sum.inr x) q, h⟩
end
/-! ### loops over data -/
section
variable {α : Type} {K : PySem.W.Frag} {a : Addr} {xs : List V} {g : TG} {tb : TS} {n : St → Hp → Prop} {r : VK} {σ : St} {H : Hp} {ds : List α} {F : Hp → V → α → Prop}
theorem at_drop {i : Nat} {x : V} (hp : Paired (F H) xs ds) (hi : xs[i]? = some x) : ∃ d, F H x d ∧ ds.drop i = d :: ds.drop (i + 1) := by
  have L := Paired.length hp
  have lt : i < ds.length := by rw [← L]; exact (List.getElem?_eq_some_iff.mp hi).1
  obtain ⟨y, hy, hv⟩ := pd_get hp hi
  have ey : y = ds[i] := by
    rw [List.getElem?_eq_getElem lt] at hy
    exact (Option.some.inj hy).symm
  exact ⟨y, hv, by rw [ey]; exact List.drop_eq_getElem_cons lt⟩
theorem at_end (hp : Paired (F H) xs ds) : ds.drop xs.length = [] := by rw [Paired.length hp, List.drop_length]
/-- for x in a tuple -/
theorem g_forT (hx : SqT K H a xs) (hp : Paired (F H) xs ds) (Iv : List α → St → Hp → Prop) (h0 : Iv ds σ H)
    (keep : ∀ l σ' H', Iv l σ' H' → SqT K H' a xs ∧ ∀ x d, F H x d → F H' x d)
    (step : ∀ d l x σ' H', Iv (d :: l) σ' H' → F H' x d → g x σ' H' fun σ2 H2 => tb (Ends.mk (Iv l) r n (Iv l)) σ2 H2)
    (last : ∀ σ' H', Iv [] σ' H' → n σ' H') :
    ∃ a', V.ref a = V.ref a' ∧ (∃ xs, SqT K H a' xs) ∧ ∃ W : Nat → Nat → St → Hp → Prop, (∃ m, W 0 m σ H) ∧ ∀ i m σ H, W i m σ H →
      ((Itt K a').stop i H ∧ n σ H) ∨ ((Itt K a').go i H ∧ ∃ N : St → Hp → Prop, (∀ σ' H', N σ' H' → ∃ m', m' < m ∧ W (i + 1) m' σ' H') ∧ ∀ x H', (Itt K a').yld i H x H' → g x σ H' fun σ2 H2 => tb (Ends.mk N r n N) σ2 H2) := by
  refine ⟨a, rfl, ⟨xs, hx⟩, for_tup (K := K) (xs := xs) (D := Ends.mk n r n n) (fun i σ' H' => Iv (ds.drop i) σ' H') h0 (fun i σ' H' _ q => (keep _ _ _ q).1) ?_ ?_⟩
  · intro i x σ' H' hi q
    obtain ⟨d, hd, e⟩ := at_drop hp hi
    rw [e] at q
    exact step d _ x σ' H' q ((keep _ _ _ q).2 x d hd)
  · intro σ' H' q
    rw [at_end hp] at q
    exact last _ _ q
/-- for x in a list -/
theorem g_forL (hx : SqL K H a xs) (hp : Paired (F H) xs ds) (Iv : List α → St → Hp → Prop) (h0 : Iv ds σ H)
    (keep : ∀ l σ' H', Iv l σ' H' → SqL K H' a xs ∧ ∀ x d, F H x d → F H' x d)
    (step : ∀ d l x σ' H', Iv (d :: l) σ' H' → F H' x d → g x σ' H' fun σ2 H2 => tb (Ends.mk (Iv l) r n (Iv l)) σ2 H2)
    (last : ∀ σ' H', Iv [] σ' H' → n σ' H') :
    ∃ a', V.ref a = V.ref a' ∧ (∃ xs, SqL K H a' xs) ∧ ∃ W : Nat → Nat → St → Hp → Prop, (∃ m, W 0 m σ H) ∧ ∀ i m σ H, W i m σ H →
      ((Itl K a').stop i H ∧ n σ H) ∨ ((Itl K a').go i H ∧ ∃ N : St → Hp → Prop, (∀ σ' H', N σ' H' → ∃ m', m' < m ∧ W (i + 1) m' σ' H') ∧ ∀ x H', (Itl K a').yld i H x H' → g x σ H' fun σ2 H2 => tb (Ends.mk N r n N) σ2 H2) := by
  refine ⟨a, rfl, ⟨xs, hx⟩, for_list (K := K) (xs := xs) (D := Ends.mk n r n n) (fun i σ' H' => Iv (ds.drop i) σ' H') h0 (fun i σ' H' _ q => (keep _ _ _ q).1) ?_ ?_⟩
  · intro i x σ' H' hi q
    obtain ⟨d, hd, e⟩ := at_drop hp hi
    rw [e] at q
    exact step d _ x σ' H' q ((keep _ _ _ q).2 x d hd)
  · intro σ' H' q
    rw [at_end hp] at q
    exact last _ _ q
/-- for k in range(j) -/
theorem g_forR {j : Int} (h1 : j < 2 ^ 62) (h2 : -(2 ^ 62) ≤ j) (Iv : Nat → St → Hp → Prop) (h0 : Iv 0 σ H)
    (step : ∀ i σ' H', i < j.toNat → Iv i σ' H' → g (.int (i : Int)) σ' H' fun σ2 H2 => tb (Ends.mk (Iv (i + 1)) r n (Iv (i + 1))) σ2 H2)
    (last : ∀ σ' H', Iv j.toNat σ' H' → n σ' H') :
    ∃ j' : Int, [V.int j] = [V.int j'] ∧ -(2 ^ 62) ≤ j' ∧ j' < 2 ^ 62 ∧ ∃ W : Nat → Nat → St → Hp → Prop, (∃ m, W 0 m σ H) ∧ ∀ i m σ H, W i m σ H →
      ((Itr 0 j'.toNat).stop i H ∧ n σ H) ∨ ((Itr 0 j'.toNat).go i H ∧ ∃ N : St → Hp → Prop, (∀ σ' H', N σ' H' → ∃ m', m' < m ∧ W (i + 1) m' σ' H') ∧ ∀ x H', (Itr 0 j'.toNat).yld i H x H' → g x σ H' fun σ2 H2 => tb (Ends.mk N r n N) σ2 H2) := by
  refine ⟨j, rfl, h2, h1, for_range (lo := 0) (n := j.toNat) (D := Ends.mk n r n n) Iv h0 ?_ last⟩
  intro i σ' H' hi q
  have e : (0 : Int) + (i : Int) = (i : Int) := Int.zero_add _
  rw [e]
  exact step i σ' H' hi q
end
/-! ### comprehensions over data -/
section
variable {α : Type} {K : PySem.W.Frag} {a : Addr} {xs : List V} {g : TG} {tt : TT} {te : TE} {vs : List Nat} {σ : St} {H : Hp} {ds : List α} {F : Hp → V → α → Prop} {Q : VK}
theorem filt_all (ds : List α) : ds.filter (fun _ => true) = ds := List.filter_eq_self.mpr fun _ _ => rfl
/-- what the first turns have given -/
def gave (f : α → Bool) (v : α → V) (ds : List α) (i : Nat) : List V := ((ds.take i).filter f).map v
theorem gave_len (f : α → Bool) (v : α → V) (ds : List α) (i : Nat) : (gave f v ds i).length ≤ ds.length := by
  unfold gave
  rw [List.length_map]
  exact Nat.le_trans (List.length_filter_le _ _) (by rw [List.length_take]; omega)
theorem gave_next {f : α → Bool} {v : α → V} {ds : List α} {i : Nat} {d : α} {r : List α} (e : ds.drop i = d :: r) :
    gave f v ds (i + 1) = gave f v ds i ++ (if f d = true then [v d] else []) := by
  have h : ds[i]? = some d := by
    have q : (ds.drop i)[0]? = some d := by rw [e] <;> rfl
    rw [List.getElem?_drop] at q
    exact q
  unfold gave
  rw [List.take_add_one, h]
  show (List.filter f (List.take i ds ++ [d])).map v = _
  rw [List.filter_append, List.map_append]
  cases q : f d with
  | true => rw [if_pos rfl, List.filter_cons, if_pos q] <;> rfl
  | false => rw [if_neg (by decide), List.filter_cons, if_neg (by rw [q]; decide)] <;> rfl
theorem gave_all (f : α → Bool) (v : α → V) (ds : List α) : gave f v ds ds.length = (ds.filter f).map v := by
  unfold gave
  rw [List.take_length]
def LcW (H : Hp) (D : Addr) (f : α → Bool) (v : α → V) (ds : List α) (i : Nat) (H' : Hp) : Prop := H D = none ∧ Ex H H' ∧ H' D = some (.lst (gave f v ds i))
/-- one turn, its continuations open -/
def LcT (g : TG) (tt : TT) (te : TE) (vs : List Nat) (σ : St) (f : α → Bool) (v : α → V) (x : V) (d : α) (H' : Hp) : Prop :=
  ∀ (R : Hp → Prop) (S : VK), (f d = false → ∀ H3, Ex H' H3 → R H3) → (f d = true → ∀ H3, Ex H' H3 → S (v d) H3) →
    g x (wipe σ vs) H' fun σ2 H2 => wipe σ2 vs = wipe σ vs ∧ tt σ2 H2 fun b H3 => if b = true then te σ2 H3 S else R H3
theorem lc_turn {D : Addr} {f : α → Bool} {v : α → V} {i : Nat} {x : V} {d : α} {H' : Hp} {rest : List α} (hz : ds.length ≤ 100000) (w : LcW H D f v ds i H') (e : ds.drop i = d :: rest) (t : LcT g tt te vs σ f v x d H') :
    g x (wipe σ vs) H' fun σ2 H2 => wipe σ2 vs = wipe σ vs ∧ tt σ2 H2 fun b H3 =>
      if b = true then te σ2 H3 fun y H4 => ∃ acc, H4 D = some (.lst acc) ∧ acc.length < sizeLine ∧ LcW H D f v ds (i + 1) (upd H4 D (.lst (acc ++ [y]))) else LcW H D f v ds (i + 1) H3 := by
  obtain ⟨w1, w2, w3⟩ := w
  have en := gave_next (f := f) (v := v) e
  refine t _ _ (fun hf H3 e3 => ⟨w1, w2.trans e3, ?_⟩) (fun hf H3 e3 => ⟨_, e3 D _ w3, ?_, w1, Evl.Ex.mut (w2.trans e3) w1, ?_⟩)
  · rw [en, hf, if_neg (by decide), List.append_nil]
    exact e3 D _ w3
  · exact Nat.lt_of_le_of_lt (Nat.le_trans (gave_len f v ds i) hz) (by decide)
  · rw [en, hf, if_pos rfl]
    exact upd_same
/-- a comprehension over the value that its iterable has given -/
def tLcT (K : PySem.W.Frag) (x : V) (g : TG) (tt : TT) (te : TE) (vs : List Nat) : TE := tLc (iTup K fun _ H1 R => R x H1) g tt te vs
def tLcL (K : PySem.W.Frag) (x : V) (g : TG) (tt : TT) (te : TE) (vs : List Nat) : TE := tLc (iList K fun _ H1 R => R x H1) g tt te vs
theorem g_lcTup {tl : TE} (h : tl σ H fun x H1 => tLcT K x g tt te vs σ H1 Q) : tLc (iTup K tl) g tt te vs σ H Q := h
theorem g_lcList {tl : TE} (h : tl σ H fun x H1 => tLcL K x g tt te vs σ H1 Q) : tLc (iList K tl) g tt te vs σ H Q := h
theorem g_lcRng1 {ta : TA} (h : ta σ H fun us H1 => tLc (iRng1 fun _ H2 R => R us H2) g tt te vs σ H1 Q) : tLc (iRng1 ta) g tt te vs σ H Q := h
theorem g_lcRng2 {ta : TA} (h : ta σ H fun us H1 => tLc (iRng2 fun _ H2 R => R us H2) g tt te vs σ H1 Q) : tLc (iRng2 ta) g tt te vs σ H Q := h
theorem g_lcT (hx : SqT K H a xs) (hp : Paired (F H) xs ds) (hz : ds.length ≤ 100000) (f : α → Bool) (v : α → V)
    (mono : ∀ H' x d, Ex H H' → F H x d → F H' x d)
    (step : ∀ d x H', Ex H H' → F H' x d → LcT g tt te vs σ f v x d H')
    (last : ∀ D H', H D = none → Ex H H' → H' D = some (.lst ((ds.filter f).map v)) → Q (.ref D) H') :
    tLcT K (.ref a) g tt te vs σ H Q := by
  refine ⟨a, rfl, ⟨xs, hx⟩, fun D hD => lc_tup (K := K) (xs := xs) (LcW H D f v ds) ⟨hD, Evl.Ex.new hD, upd_same⟩ (fun i H' _ p => Evl.ex_t p.2.1 hx) ?_ ?_⟩
  · intro i x H' hi p
    obtain ⟨d, hd, e⟩ := at_drop hp hi
    exact lc_turn hz p e (step d x H' p.2.1 (mono _ _ _ p.2.1 hd))
  · intro H' p
    obtain ⟨p1, p2, p3⟩ := p
    rw [Paired.length hp, gave_all] at p3
    exact last D H' p1 p2 p3
theorem g_lcL (hx : SqL K H a xs) (hp : Paired (F H) xs ds) (hz : ds.length ≤ 100000) (f : α → Bool) (v : α → V)
    (mono : ∀ H' x d, Ex H H' → F H x d → F H' x d)
    (step : ∀ d x H', Ex H H' → F H' x d → LcT g tt te vs σ f v x d H')
    (last : ∀ D H', H D = none → Ex H H' → H' D = some (.lst ((ds.filter f).map v)) → Q (.ref D) H') :
    tLcL K (.ref a) g tt te vs σ H Q := by
  refine ⟨a, rfl, ⟨xs, hx⟩, fun D hD => lc_list (K := K) (xs := xs) (LcW H D f v ds) ⟨hD, Evl.Ex.new hD, upd_same⟩ (fun i H' _ p => Evl.ex_l p.2.1 hx) ?_ ?_⟩
  · intro i x H' hi p
    obtain ⟨d, hd, e⟩ := at_drop hp hi
    exact lc_turn hz p e (step d x H' p.2.1 (mono _ _ _ p.2.1 hd))
  · intro H' p
    obtain ⟨p1, p2, p3⟩ := p
    rw [Paired.length hp, gave_all] at p3
    exact last D H' p1 p2 p3
/-- the list of a range -/
def irange (lo : Int) (n : Nat) : List Int := (List.range n).map fun (i : Nat) => lo + (i : Int)
theorem irange_len (lo : Int) (n : Nat) : (irange lo n).length = n := by unfold irange; rw [List.length_map, List.length_range]
theorem irange_get {lo : Int} {n i : Nat} (h : i < n) : (irange lo n)[i]? = some (lo + (i : Int)) := by
  unfold irange
  rw [List.getElem?_map, List.getElem?_range h]
  rfl
theorem irange_drop {lo : Int} {n i : Nat} (h : i < n) : (irange lo n).drop i = (lo + (i : Int)) :: (irange lo n).drop (i + 1) := by
  have lt : i < (irange lo n).length := by rw [irange_len]; exact h
  rw [List.drop_eq_getElem_cons lt]
  have e := irange_get (lo := lo) h
  rw [List.getElem?_eq_getElem lt] at e
  rw [Option.some.inj e]
theorem lcR_core {lo : Int} {n : Nat} (hz : n ≤ 100000) (f : Int → Bool) (v : Int → V)
    (step : ∀ k H', Ex H H' → lo ≤ k → k < lo + n → LcT g tt te vs σ f v (.int k) k H')
    (last : ∀ D H', H D = none → Ex H H' → H' D = some (.lst (((irange lo n).filter f).map v)) → Q (.ref D) H') :
    ∀ D, H D = none → ∃ W : Nat → Nat → Hp → Prop, (∃ m, W 0 m (upd H D (.lst []))) ∧ ∀ i m H, W i m H →
      ((Itr lo n).stop i H ∧ Q (.ref D) H) ∨ ((Itr lo n).go i H ∧ ∃ Nx : Hp → Prop, (∀ H', Nx H' → ∃ m', m' < m ∧ W (i + 1) m' H') ∧ ∀ x H', (Itr lo n).yld i H x H' → g x (wipe σ vs) H' fun σ2 H2 => wipe σ2 vs = wipe σ vs ∧ tt σ2 H2 fun b H3 =>
        if b = true then te σ2 H3 fun y H4 => ∃ acc, H4 D = some (.lst acc) ∧ acc.length < sizeLine ∧ Nx (upd H4 D (.lst (acc ++ [y]))) else Nx H3) := by
  have len : (irange lo n).length = n := by unfold irange; rw [List.length_map, List.length_range]
  refine fun D hD => lc_range (lo := lo) (n := n) (LcW H D f v (irange lo n)) ⟨hD, Evl.Ex.new hD, upd_same⟩ ?_ ?_
  · intro i H' hi p
    exact lc_turn (by rw [len]; exact hz) p (irange_drop hi) (step _ H' p.2.1 (by omega) (by omega))
  · intro H' p
    obtain ⟨p1, p2, p3⟩ := p
    have e : gave f v (irange lo n) n = ((irange lo n).filter f).map v := by
      have q := gave_all f v (irange lo n)
      rw [len] at q
      exact q
    rw [e] at p3
    exact last D H' p1 p2 p3
theorem g_lcR2 {lo hi : Int} (b1 : -(2 ^ 60) ≤ lo) (b2 : hi ≤ 2 ^ 60) (b3 : lo ≤ hi) (b4 : hi - lo ≤ 100000) (f : Int → Bool) (v : Int → V)
    (step : ∀ k H', Ex H H' → lo ≤ k → k < hi → LcT g tt te vs σ f v (.int k) k H')
    (last : ∀ D H', H D = none → Ex H H' → H' D = some (.lst (((irange lo (hi - lo).toNat).filter f).map v)) → Q (.ref D) H') :
    tLc (iRng2 fun _ H2 R => R [.int lo, .int hi] H2) g tt te vs σ H Q := by
  have c1 : -(2 ^ 62) ≤ lo := by omega
  have c2 : lo < 2 ^ 62 := by omega
  have c3 : -(2 ^ 62) ≤ hi := by omega
  have c4 : hi < 2 ^ 62 := by omega
  exact ⟨lo, hi, rfl, ⟨c1, c2, c3, c4⟩, lcR_core (by omega) f v (fun k H' e h1 h2 => step k H' e h1 (by omega)) last⟩
theorem g_lcR1 {hi : Int} (b2 : hi ≤ 100000) (b3 : 0 ≤ hi) (f : Int → Bool) (v : Int → V)
    (step : ∀ k H', Ex H H' → 0 ≤ k → k < hi → LcT g tt te vs σ f v (.int k) k H')
    (last : ∀ D H', H D = none → Ex H H' → H' D = some (.lst (((irange 0 hi.toNat).filter f).map v)) → Q (.ref D) H') :
    tLc (iRng1 fun _ H2 R => R [.int hi] H2) g tt te vs σ H Q :=
  ⟨hi, rfl, by omega, by omega, lcR_core (by omega) f v (fun k H' e h1 h2 => step k H' e h1 (by omega)) last⟩
end
/-! ### a set of ints over a list of ints -/
section
variable {w : World} {K : PySem.W.Frag} {a : Addr} {ns : List Int} {g : TG} {tt : TT} {te : TE} {vs : List Nat} {σ : St} {H : Hp} {Q : VK}
/-- the members so far -/
def mem_ (f : Int → Bool) (v : Int → Int) (ns : List Int) (i : Nat) (k : Int) : Bool := (ns.take i).any fun h => f h && decide (k = v h)
def ScW (w : World) (H : Hp) (D : Addr) (f : Int → Bool) (v : Int → Int) (ns : List Int) (i : Nat) (H' : Hp) : Prop :=
  H D = none ∧ Ex H H' ∧ ∃ c, c ≤ i ∧ H' D = some (SetO w D (mem_ f v ns i) c)
def ScT (g : TG) (tt : TT) (te : TE) (vs : List Nat) (σ : St) (f : Int → Bool) (v : Int → Int) (x : V) (d : Int) (H' : Hp) : Prop :=
  ∀ (R : Hp → Prop) (S : VK), (f d = false → ∀ H3, Ex H' H3 → R H3) → (f d = true → ∀ H3, Ex H' H3 → S (.int (v d)) H3) →
    g x (wipe σ vs) H' fun σ2 H2 => wipe σ2 vs = wipe σ vs ∧ tt σ2 H2 fun b H3 => if b = true then te σ2 H3 S else R H3
theorem mem_next {f : Int → Bool} {v : Int → Int} {i : Nat} {d : Int} {r : List Int} (e : ns.drop i = d :: r) :
    mem_ f v ns (i + 1) = fun k => mem_ f v ns i k || (f d && decide (k = v d)) := by
  have h : ns[i]? = some d := by
    have q : (ns.drop i)[0]? = some d := by rw [e] <;> rfl
    rw [List.getElem?_drop] at q
    exact q
  funext k
  unfold mem_
  rw [List.take_add_one, h]
  show (List.take i ns ++ [d]).any _ = _
  rw [List.any_append]
  show (_ || ((f d && decide (k = v d)) || false)) = _
  rw [Bool.or_false]
def tScL (w : World) (K : PySem.W.Frag) (x : V) (g : TG) (tt : TT) (te : TE) (vs : List Nat) : TE := tScI w (iList K fun _ H1 R => R x H1) g tt te vs
theorem g_scList {tl : TE} (h : tl σ H fun x H1 => tScL w K x g tt te vs σ H1 Q) : tScI w (iList K tl) g tt te vs σ H Q := h
theorem g_scL (hx : SqL K H a (ns.map V.int)) (hz : ns.length ≤ 60) (f : Int → Bool) (v : Int → Int)
    (step : ∀ d H', Ex H H' → ScT g tt te vs σ f v (.int d) d H')
    (last : ∀ D H' c, H D = none → Ex H H' → c ≤ ns.length → H' D = some (SetO w D (mem_ f v ns ns.length) c) → Q (.ref D) H') :
    tScL w K (.ref a) g tt te vs σ H Q := by
  refine ⟨a, rfl, ⟨_, hx⟩, fun D hD => ?_⟩
  refine ⟨fun i m H' => m = ns.length - i ∧ i ≤ ns.length ∧ ScW w H D f v ns i H', ⟨ns.length, rfl, Nat.zero_le _, hD, Evl.Ex.new hD, 0, Nat.le_refl _, upd_same⟩, ?_⟩
  rintro i m H' ⟨rfl, hi, w1, w2, c, hc, w3⟩
  have q : SqL K H' a (ns.map V.int) := Evl.ex_l w2 hx
  by_cases lt : i < ns.length
  · have hi' : (ns.map V.int)[i]? = some (V.int ns[i]) := by
      rw [List.getElem?_map, List.getElem?_eq_getElem lt] <;> rfl
    have e : ns.drop i = ns[i] :: ns.drop (i + 1) := List.drop_eq_getElem_cons lt
    refine .inr ⟨⟨_, _, q, hi'⟩, ScW w H D f v ns (i + 1), fun G p => ⟨ns.length - (i + 1), by omega, rfl, lt, p⟩, fun x G y => ?_⟩
    obtain ⟨e1, y⟩ := y
    subst e1
    have ex := y _ q
    rw [hi'] at ex
    have ex := (Option.some.inj ex).symm
    subst ex
    have en := mem_next (f := f) (v := v) e
    refine step ns[i] G w2 _ _ (fun hf H3 e3 => ⟨w1, w2.trans e3, c, Nat.le_succ_of_le hc, ?_⟩) (fun hf H3 e3 => ⟨v ns[i], _, c, rfl, e3 D _ w3, ?_, w1, Evl.Ex.mut (w2.trans e3) w1, ?_⟩)
    · rw [e3 D _ w3, en, hf]
      congr 2
      funext k
      rw [Bool.false_and, Bool.or_false]
    · have hb : scanBound = scanBound := rfl
      exact Nat.lt_of_le_of_lt (show c + 1 ≤ 61 by omega) (by unfold scanBound; decide)
    · refine ⟨_, ?_, by rw [upd_same, en, hf]; simp only [Bool.true_and]; rfl⟩
      split <;> omega
  · have e : i = ns.length := by omega
    subst e
    exact .inl ⟨⟨_, q, by rw [List.length_map]; exact Nat.le_refl _⟩, last D H' c w1 w2 hc w3⟩
end
section
variable {K : PySem.W.Frag} {H H' : Hp}
theorem dpAll_pd : ∀ {vs : List V} {ds : List PyData}, DpAll K H vs ds → Paired (Dp K H) vs ds
  | _, _, .nil => .nil
  | _, _, .cons h t => .cons h (dpAll_pd t)
theorem pd_dpAll : ∀ {vs : List V} {ds : List PyData}, Paired (Dp K H) vs ds → DpAll K H vs ds
  | _, _, .nil => .nil
  | _, _, .cons h t => .cons h (pd_dpAll t)
mutual
theorem dp_tr (e : TrT K H H') (l : TrL K H H') : ∀ (d : PyData) (v : V), Dp K H v d → Dp K H' v d
  | .none, _, h => by cases h; exact .non
  | .bool b, _, h => by cases h; exact .bl b
  | .int b, _, h => by cases h; exact .int b
  | .str b, _, h => by cases h; exact .str b
  | .list ds, _, h => by
    cases h with
    | lst h1 h2 => exact .lst (l _ _ h1) (dpAll_tr e l ds _ h2)
  | .tuple ds, _, h => by
    cases h with
    | tup h1 h2 => exact .tup (e _ _ h1) (dpAll_tr e l ds _ h2)
  | .dict _, _, h => by cases h
theorem dpAll_tr (e : TrT K H H') (l : TrL K H H') : ∀ (ds : List PyData) (vs : List V), DpAll K H vs ds → DpAll K H' vs ds
  | [], _, h => by cases h; exact .nil
  | d :: ds, _, h => by
    cases h with
    | cons h1 h2 => exact .cons (dp_tr e l d _ h1) (dpAll_tr e l ds _ h2)
end
theorem dp_ex (e : Ex H H') {d : PyData} {v : V} (h : Dp K H v d) : Dp K H' v d := dp_tr (TrT.of e) (TrL.of e) d v h
/-- data of tuples, at most n deep -/
def fits : Nat → PyData → Bool
  | _, .none => true
  | _, .bool _ => true
  | _, .int _ => true
  | _, .str _ => true
  | n + 1, .tuple xs => decide (xs.length ≤ 1000) && xs.all (fits n)
  | _, _ => false
theorem fits_tuple {n : Nat} {xs : List PyData} : fits (n + 1) (.tuple xs) = (decide (xs.length ≤ 1000) && xs.all (fits n)) := rfl
theorem dp_trT (e : TrT K H H') : ∀ (n : Nat) (d : PyData) (v : V), fits n d = true → Dp K H v d → Dp K H' v d := by
  intro n
  induction n with
  | zero =>
    intro d v f h
    cases h with
    | non => exact .non
    | bl b => exact .bl b
    | int b => exact .int b
    | str b => exact .str b
    | lst h1 h2 => cases f
    | tup h1 h2 => cases f
  | succ n ih =>
    intro d v f h
    cases h with
    | non => exact .non
    | bl b => exact .bl b
    | int b => exact .int b
    | str b => exact .str b
    | lst h1 h2 => cases f
    | @tup a xs ds h1 h2 =>
      refine .tup (e _ _ h1) (pd_dpAll ?_)
      have f' : ∀ x ∈ ds, fits n x = true := List.all_eq_true.mp (Bool.and_eq_true_iff.mp (show (decide (ds.length ≤ 1000) && ds.all (fits n)) = true from f)).2
      have p := dpAll_pd h2
      clear h1 h2 f
      induction p with
      | nil => exact .nil
      | @cons x d xs ds q t ih2 => exact .cons (ih d x (f' d (by simp)) q) (ih2 fun z hz => f' z (by simp [hz]))
theorem pd_map {α β γ : Type} {F : α → β → Prop} {G : α → γ → Prop} {f : β → γ} (h : ∀ a b, F a b → G a (f b)) : ∀ {xs : List α} {ys : List β}, Paired F xs ys → Paired G xs (ys.map f)
  | _, _, .nil => .nil
  | _, _, .cons q t => .cons (h _ _ q) (pd_map h t)
theorem pd_maps {α β γ : Type} {F : α → β → Prop} {f : γ → α} {g : γ → β} : ∀ (zs : List γ), (∀ z ∈ zs, F (f z) (g z)) → Paired F (zs.map f) (zs.map g)
  | [], _ => .nil
  | z :: zs, h => .cons (h z (by simp)) (pd_maps zs fun y hy => h y (by simp [hy]))
theorem dp_ints (ns : List Int) : DpAll K H (ns.map V.int) (ns.map PyData.int) := pd_dpAll (pd_maps ns fun z _ => .int z)
theorem dp_pair {v : V} {p : Int × Int} (h : PV K H v p) : Dp K H v (.tuple [.int p.1, .int p.2]) := by
  obtain ⟨a, rfl, h⟩ := h
  exact .tup h (.cons (.int _) (.cons (.int _) .nil))
/-! ### shapes -/
def sh (n : Nat) (d : PyData) : Prop := d.canLay0 = true ∧ d.depth ≤ n
theorem sh_all {n : Nat} : ∀ {ds : List PyData}, (∀ x ∈ ds, sh n x) → PyData.canLayAll0 ds = true ∧ PyData.depthAll ds ≤ n
  | [], _ => by simp [PyData.canLayAll0, PyData.depthAll]
  | d :: ds, h => by
    have h1 := h d (by simp)
    have h2 := sh_all (ds := ds) fun x hx => h x (by simp [hx])
    unfold PyData.canLayAll0 PyData.depthAll
    exact ⟨by rw [h1.1, h2.1] <;> rfl, by have := h1.2; have := h2.2; omega⟩
theorem sh_list {n : Nat} {ds : List PyData} (h : ∀ x ∈ ds, sh n x) : sh (n + 1) (.list ds) := by
  have q := sh_all h
  unfold sh PyData.canLay0 PyData.depth
  exact ⟨q.1, by have := q.2; omega⟩
theorem sh_tup {n : Nat} {ds : List PyData} (h : ∀ x ∈ ds, sh n x) : sh (n + 1) (.tuple ds) := by
  have q := sh_all h
  unfold sh PyData.canLay0 PyData.depth
  exact ⟨q.1, by have := q.2; omega⟩
theorem sh_int {n : Nat} {i : Int} : sh n (.int i) := by unfold sh PyData.canLay0 PyData.depth; exact ⟨rfl, Nat.zero_le _⟩
theorem sh_ints {n : Nat} {ns : List Int} : ∀ x ∈ ns.map PyData.int, sh n x := by
  intro x hx
  obtain ⟨i, _, rfl⟩ := List.mem_map.mp hx
  exact sh_int
theorem sh_ok {n : Nat} {d : PyData} (h : sh n d) (l : n ≤ 64) : SeqAt.shaped d = true := by
  unfold SeqAt.shaped
  rw [h.1, decide_eq_true (Nat.le_trans h.2 l)] <;> rfl
theorem eqvAll_nil (ds : List PyData) : PyData.eqvAll ds [] = ds.isEmpty := by
  cases ds with
  | nil => unfold PyData.eqvAll; rfl
  | cons d ds => unfold PyData.eqvAll; rfl
section
variable {Q : VK} {a b : Addr} {ns : List Int}
/-- xs != [] -/
theorem g_neNil (h1 : H a = some (.lst (ns.map V.int))) (h2 : H b = some (.lst [])) (k : Q (.bl (!ns.isEmpty)) H) : rNeD K (.ref a) (.ref b) H Q := by
  refine ⟨.list (ns.map PyData.int), .list [], .lst (SqL.of h1) (dp_ints ns), .lst (SqL.of h2) .nil, sh_ok (n := 1) (sh_list sh_ints) (by omega), sh_ok (n := 1) (sh_list (by simp)) (by omega), ?_⟩
  have e : PyData.eqv (.list (ns.map PyData.int)) (.list []) = ns.isEmpty := by
    show PyData.eqvAll (ns.map PyData.int) [] = ns.isEmpty
    rw [eqvAll_nil]
    cases ns <;> rfl
  rw [e]
  exact k
theorem g_eqNil (h1 : H a = some (.lst (ns.map V.int))) (h2 : H b = some (.lst [])) (k : Q (.bl ns.isEmpty) H) : rEqD K (.ref a) (.ref b) H Q := by
  refine ⟨.list (ns.map PyData.int), .list [], .lst (SqL.of h1) (dp_ints ns), .lst (SqL.of h2) .nil, sh_ok (n := 1) (sh_list sh_ints) (by omega), sh_ok (n := 1) (sh_list (by simp)) (by omega), ?_⟩
  have e : PyData.eqv (.list (ns.map PyData.int)) (.list []) = ns.isEmpty := by
    show PyData.eqvAll (ns.map PyData.int) [] = ns.isEmpty
    rw [eqvAll_nil]
    cases ns <;> rfl
  rw [e]
  exact k
end
end
theorem sh_bool {n : Nat} {i : Bool} : sh n (.bool i) := by unfold sh PyData.canLay0 PyData.depth; exact ⟨rfl, Nat.zero_le _⟩
theorem sh_none {n : Nat} : sh n .none := by unfold sh PyData.canLay0 PyData.depth; exact ⟨rfl, Nat.zero_le _⟩
theorem sh_str {n : Nat} {s : Str} (h : PyData.strOk s = true) : sh n (.str s) := by unfold sh PyData.canLay0 PyData.depth; exact ⟨h, Nat.zero_le _⟩
/-! ### a pair or a word -/
abbrev Tm := Int × Int
def encT : Option Tm → PyData
  | none => .str "refused"
  | some t => .tuple [.int t.1, .int t.2]
def TV (K : PySem.W.Frag) (H : Hp) (v : V) : Option Tm → Prop
  | none => v = .str "refused"
  | some t => PV K H v t
section
variable {K : PySem.W.Frag} {H H' : Hp} {v : V}
theorem TV.tr {o : Option Tm} (e : TrT K H H') (h : TV K H v o) : TV K H' v o := by
  cases o with
  | none => exact h
  | some t => exact PV.tr e h
theorem TV.dp {o : Option Tm} (h : TV K H v o) : Dp K H v (encT o) := by
  cases o with
  | none => cases (show v = .str "refused" from h); exact .str _
  | some t => exact dp_pair h
theorem sh_refused {n : Nat} : sh n (.str "refused") := sh_str (by decide +kernel)
theorem sh_encT {o : Option Tm} : sh 1 (encT o) := by
  cases o with
  | none => exact sh_refused
  | some t =>
    refine sh_tup fun x hx => ?_
    simp only [List.mem_cons, List.not_mem_nil, or_false] at hx
    rcases hx with rfl | rfl <;> exact sh_int
theorem eqv_tup {a b : Tm} : PyData.eqv (encT (some a)) (encT (some b)) = decide (a = b) := by
  show PyData.eqvAll [.int a.1, .int a.2] [.int b.1, .int b.2] = _
  unfold PyData.eqvAll PyData.eqvAll PyData.eqvAll PyData.eqv
  simp only [Bool.and_true]
  rw [show (a.1 == b.1) = decide (a.1 = b.1) from rfl, show (a.2 == b.2) = decide (a.2 = b.2) from rfl, ← Bool.decide_and]
  exact decide_eq_decide.mpr ⟨fun h => Prod.ext h.1 h.2, fun h => by rw [h]; exact ⟨rfl, rfl⟩⟩
theorem eqv_enc {a b : Option Tm} : PyData.eqv (encT a) (encT b) = decide (a = b) := by
  cases a with
  | none => cases b with
    | none => decide +kernel
    | some b => rfl
  | some a => cases b with
    | none => rfl
    | some b => rw [eqv_tup]; exact decide_eq_decide.mpr ⟨fun h => by rw [h], fun h => Option.some.inj h⟩
section
variable {Q : VK} {x y : V} {a b : Option Tm}
theorem g_eqT (h1 : TV K H x a) (h2 : TV K H y b) (k : Q (.bl (decide (a = b))) H) : rEqD K x y H Q :=
  ⟨_, _, h1.dp, h2.dp, sh_ok sh_encT (by omega), sh_ok sh_encT (by omega), by rw [eqv_enc]; exact k⟩
theorem g_neT (h1 : TV K H x a) (h2 : TV K H y b) (k : Q (.bl (!decide (a = b))) H) : rNeD K x y H Q :=
  ⟨_, _, h1.dp, h2.dp, sh_ok sh_encT (by omega), sh_ok sh_encT (by omega), by rw [eqv_enc]; exact k⟩
/-- "refused" in [x, y] -/
theorem g_inT {l : Addr} (h0 : H l = some (.lst [x, y])) (h1 : TV K H x a) (h2 : TV K H y b) (k : Q (.bl (decide (a = none) || decide (b = none))) H) : rInD K (.str "refused") (.ref l) H Q := by
  refine ⟨.str "refused", [encT a, encT b], .str _, .lst (SqL.of h0) (.cons h1.dp (.cons h2.dp .nil)), sh_ok (n := 1) sh_refused (by omega), sh_ok (n := 2) (sh_list ?_) (by omega), ?_⟩
  · intro z hz
    simp only [List.mem_cons, List.not_mem_nil, or_false] at hz
    rcases hz with rfl | rfl <;> exact sh_encT
  · show Q (.bl (PyData.eqv (encT a) (encT none) || (PyData.eqv (encT b) (encT none) || false))) H
    rw [eqv_enc, eqv_enc, Bool.or_false]
    exact k
end
end
/-! ### rising lists -/
theorem rise_ext : ∀ {xs ys : List Int}, xs.Pairwise (· < ·) → ys.Pairwise (· < ·) → (∀ k, k ∈ xs ↔ k ∈ ys) → xs = ys
  | [], [], _, _, _ => rfl
  | [], y :: ys, _, _, h => absurd ((h y).2 (by simp)) (by simp)
  | x :: xs, [], _, _, h => absurd ((h x).1 (by simp)) (by simp)
  | x :: xs, y :: ys, hx, hy, h => by
    rw [List.pairwise_cons] at hx hy
    have e : x = y := by
      have h1 := (h x).1 (by simp)
      have h2 := (h y).2 (by simp)
      rw [List.mem_cons] at h1 h2
      rcases h1 with h1 | h1
      · exact h1
      · rcases h2 with h2 | h2
        · exact h2.symm
        · have := hx.1 y h2
          have := hy.1 x h1
          omega
    subst e
    rw [rise_ext hx.2 hy.2 fun k => ?_]
    constructor
    · intro hk
      have q := (h k).1 (by simp [hk])
      rw [List.mem_cons] at q
      rcases q with q | q
      · have := hx.1 k hk
        omega
      · exact q
    · intro hk
      have q := (h k).2 (by simp [hk])
      rw [List.mem_cons] at q
      rcases q with q | q
      · have := hy.1 k hk
        omega
      · exact q
theorem irange_mem {lo : Int} {n : Nat} {k : Int} : k ∈ irange lo n ↔ lo ≤ k ∧ k < lo + n := by
  unfold irange
  rw [List.mem_map]
  constructor
  · rintro ⟨i, hi, rfl⟩
    rw [List.mem_range] at hi
    omega
  · rintro ⟨h1, h2⟩
    exact ⟨(k - lo).toNat, by rw [List.mem_range]; omega, by omega⟩
theorem irange_rise (lo : Int) (n : Nat) : (irange lo n).Pairwise (· < ·) := by
  unfold irange
  rw [List.pairwise_map]
  exact List.pairwise_lt_range.imp fun h => by omega
section
variable {σ : St} {H : Hp}
/-- an expression that gives v and leaves the heap as it is -/
def EvV (te : TE) (σ : St) (H : Hp) (v : V) : Prop := ∀ Q : VK, Q v H → te σ H Q
def EvK (tt : TT) (σ : St) (H : Hp) (b : Bool) : Prop := ∀ R : Bool → Hp → Prop, R b H → tt σ H R
variable {ta tb : TE} {tt : TT} {v : V} {a b c : Bool} {x y : Str} {i j : Int}
theorem evV_var {k : Nat} (e : σ[k]? = some (some v)) : EvV (tVar k) σ H v := fun Q q => ⟨v, e, q⟩
theorem evV_c : EvV (tC v) σ H v := fun Q q => q
theorem evV_not (h : EvV ta σ H (.bl a)) : EvV (tNotV ta) σ H (.bl (!a)) := fun Q q => h _ ⟨a, rfl, q⟩
theorem evV_or (h : EvV ta σ H (.bl a)) (h' : EvV tb σ H (.bl b)) : EvV (tOrV ta tb) σ H (.bl (a || b)) := fun Q q => h _ ⟨a, rfl, by
  cases a with
  | true => exact q
  | false => exact h' _ q⟩
theorem evV_and (h : EvV ta σ H (.bl a)) (h' : EvV tb σ H (.bl b)) : EvV (tAndV ta tb) σ H (.bl (a && b)) := fun Q q => h _ ⟨a, rfl, by
  cases a with
  | true => exact h' _ q
  | false => exact q⟩
theorem evK_B (h : EvV ta σ H (.bl a)) : EvK (tB ta) σ H a := fun R r => h _ ⟨a, rfl, r⟩
theorem evK_test (h : EvV ta σ H (.bl a)) : EvK (tTest ta) σ H a := fun R r => h _ ⟨a, rfl, r⟩
theorem evK_not (h : EvK tt σ H a) : EvK (tNot tt) σ H (!a) := fun R r => h _ r
theorem evV_if (h : EvK tt σ H c) (h1 : EvV ta σ H (.bl a)) (h2 : EvV tb σ H (.bl b)) : EvV (tIf tt ta tb) σ H (.bl (if c = true then a else b)) := fun Q q => h _ (by
  cases c with
  | true => exact if_t rfl (h1 _ q)
  | false => exact if_f rfl (h2 _ q))
theorem evV_eqB (h : EvV ta σ H (.bl a)) (h' : EvV tb σ H (.bl b)) : EvV (tOp rEq ta tb) σ H (.bl (a == b)) := fun Q q => h _ (h' _ (g_eqB q))
theorem evV_eqS (h : EvV ta σ H (.str x)) (h' : EvV tb σ H (.str y)) : EvV (tOp rEq ta tb) σ H (.bl (decide (x = y))) := fun Q q => h _ (h' _ (g_eqS q))
theorem evV_neS (h : EvV ta σ H (.str x)) (h' : EvV tb σ H (.str y)) : EvV (tOp rNe ta tb) σ H (.bl (!decide (x = y))) := fun Q q => h _ (h' _ (g_neS q))
theorem evV_is {v' : V} (h : EvV ta σ H v) (e : v = v') : EvV ta σ H v' := e ▸ h
theorem g_ev {Q : VK} (h : EvV ta σ H v) (q : Q v H) : ta σ H Q := h Q q
/-- a new pair of truth values -/
theorem g_pairB {Q : VK} (h1 : EvV ta σ H (.bl a)) (h2 : EvV tb σ H (.bl b)) (k : ∀ p H', H p = none → Ex H H' → H' p = some (.tup [.bl a, .bl b]) → Q (.ref p) H') : tTup (tCons ta (tCons tb tNil)) σ H Q :=
  h1 _ (h2 _ (g_newT (by simp) k))
end
section
variable {K : PySem.W.Frag} {H H' H0 : Hp} {D : Addr}
theorem TrT.frD {kvs : List (Key × V)} (hr : H D = some (.dK kvs)) (e : Fr D H H') : TrT K H H' := by
  intro a ys h
  have ne : ∀ o, H a = some o → (∀ zs, o ≠ .dK zs) → a ≠ D := fun o q n z => by
    subst z
    rw [hr] at q
    exact n kvs (Option.some.inj q).symm
  rcases h with (h | ⟨o, h⟩) | h
  · exact .inl (.inl (e a _ (ne _ h fun _ z => nomatch z) h))
  · exact .inl (.inr ⟨o, e a _ (ne _ h fun _ z => nomatch z) h⟩)
  · exact .inr h
theorem ex_fr (e : Ex H0 H) (n : H0 D = none) (f : Fr D H H') : Ex H0 H' := fun a o h => f a o (ne_of_none h n) (e a o h)
/-- a pair of truth values -/
def BP (K : PySem.W.Frag) (H : Hp) (v : V) (p : Bool × Bool) : Prop := ∃ a, v = .ref a ∧ SqT K H a [.bl p.1, .bl p.2]
theorem BP.tr {v : V} {p : Bool × Bool} (e : TrT K H H') (h : BP K H v p) : BP K H' v p := by
  obtain ⟨a, q, h⟩ := h
  exact ⟨a, q, e _ _ h⟩
/-- a dict of names and what they stand for -/
def DictAt (K : PySem.W.Frag) {α : Type} (nm : α → Str) (F : Hp → V → α → Prop) (H : Hp) (D : Addr) (rs : List α) : Prop :=
  ∃ kvs : List (Key × V), H D = some (.dK kvs) ∧ Paired (fun (kv : Key × V) r => kv.1 = (Sum.inr (nm r) : Key) ∧ F H kv.2 r) kvs rs
section
variable {α : Type} {nm : α → Str} {F : Hp → V → α → Prop}
theorem any_none {kvs : List (Key × V)} {rs : List α} {k : Str} {P : V → α → Prop} (h : Paired (fun (kv : Key × V) r => kv.1 = (Sum.inr (nm r) : Key) ∧ P kv.2 r) kvs rs) (n : ∀ r ∈ rs, nm r ≠ k) :
    (kvs.any fun kv => decide (kv.1 = (Sum.inr k : Key))) = false := by
  induction h with
  | nil => rfl
  | @cons kv r kvs rs q t ih =>
    rw [List.any_cons, ih fun x hx => n x (by simp [hx]), Bool.or_false, q.1]
    exact decide_eq_false fun e => n r (by simp) (Sum.inr.inj e)
theorem DictAt.put {rs : List α} {r : α} {v : V} {R : Hp → Prop} (h : DictAt K nm F H D rs) (mono : ∀ H' v r, TrT K H H' → F H v r → F H' v r) (n : ∀ x ∈ rs, nm x ≠ nm r) (few : rs.length < 1000) (hv : F H v r)
    (k : ∀ H', Fr D H H' → DictAt K nm F H' D (rs ++ [r]) → R H') : rSetD (.ref D) (.str (nm r)) v H R := by
  obtain ⟨kvs, hD, hp⟩ := h
  have len := Paired.length hp
  have e : putK kvs (Sum.inr (nm r) : Key) v = kvs ++ [((Sum.inr (nm r) : Key), v)] := by
    unfold putK
    rw [any_none (P := F H) hp n, if_neg (by decide)]
  have tr : TrT K H (L2.upd H D (.dK (kvs ++ [((Sum.inr (nm r) : Key), v)]))) := TrT.frD hD Fr.upd
  refine ⟨D, _, rfl, DPut.k (k := (Sum.inr (nm r) : Key)) hD (by rw [len]; exact Nat.lt_of_lt_of_le few (by decide)), ?_⟩
  rw [e]
  refine k _ Fr.upd ⟨_, upd_same, pd_app (L2.Paired.mapP hp fun _ _ q => ⟨q.1, mono _ _ _ tr q.2⟩) (.cons ⟨rfl, mono _ _ _ tr hv⟩ .nil)⟩
theorem DictAt.trT {rs : List α} (h : DictAt K nm F H D rs) (f : Fr D H H') : TrT K H H' := by
  obtain ⟨kvs, hD, _⟩ := h
  exact TrT.frD hD f
theorem DictAt.get {rs : List α} {r : α} (h : DictAt K nm F H D rs) (inj : ∀ x ∈ rs, nm x = nm r → x = r) (m : r ∈ rs) : ∃ v, DGet H D (.str (nm r)) (some v) ∧ F H v r := by
  obtain ⟨kvs, hD, hp⟩ := h
  have q : ∃ v, valV kvs (Sum.inr (nm r) : Key) = some v ∧ F H v r := by
    clear hD
    induction hp with
    | nil => cases m
    | @cons kv x kvs rs q t ih =>
      by_cases c : nm x = nm r
      · have e := inj x (by simp) c
        subst e
        exact ⟨kv.2, valV_pos q.1, q.2⟩
      · rw [valV_neg (by rw [q.1]; exact fun e => c (Sum.inr.inj e))]
        rcases List.mem_cons.mp m with e | m
        · exact (c (by rw [e])).elim
        · exact ih (fun y hy => inj y (by simp [hy])) m
  obtain ⟨v, e, f⟩ := q
  exact ⟨v, by rw [← e]; exact DGet.k (k := (Sum.inr (nm r) : Key)) hD, f⟩
theorem DictAt.tr {rs : List α} (h : DictAt K nm F H D rs) (e : Ex H H') (mono : ∀ H' v r, TrT K H H' → F H v r → F H' v r) : DictAt K nm F H' D rs := by
  obtain ⟨kvs, hD, hp⟩ := h
  exact ⟨kvs, e _ _ hD, L2.Paired.mapP hp fun _ _ q => ⟨q.1, mono _ _ _ (TrT.of e) q.2⟩⟩
end
theorem g_inL {Q : VK} {a : Addr} {xs : List V} {x : V} (q : SqL K H a xs) (f1 : flatV x = true) (f2 : xs.all flatV = true) (k : Q (.bl (inV x xs)) H) : rIn K false x (.ref a) H Q := ⟨a, xs, rfl, .inl q, f1, f2, k⟩
theorem g_inTu {Q : VK} {a : Addr} {xs : List V} {x : V} (q : SqT K H a xs) (f1 : flatV x = true) (f2 : xs.all flatV = true) (k : Q (.bl (inV x xs)) H) : rIn K false x (.ref a) H Q := ⟨a, xs, rfl, .inr q, f1, f2, k⟩
theorem inV_strs (x : Str) : ∀ xs : List Str, inV (.str x) (xs.map V.str) = xs.any fun y => decide (y = x)
  | [] => rfl
  | y :: ys => by
    show (eqV (.str y) (.str x) || inV (.str x) (ys.map V.str)) = (decide (y = x) || ys.any fun y => decide (y = x))
    rw [inV_strs x ys]
    rfl
end
section
open He
/-- the object that the key x stands for in the table at a -/
def dctAt (a : PySem.W.Frag → Addr) (x : Str) (K : PySem.W.Frag) : Addr := match PySem.W.nsIn K (a K) x with
  | some (some (.ref b)) => b
  | _ => 0
def gaF (x : Str) (K : PySem.W.Frag) : Addr := ga K x
/-- a tuple found by a path -/
def tupD (a : PySem.W.Frag → Addr) (vs : List Dv) (K : PySem.W.Frag) : Bool := match K.lookup (a K) with
  | some ⟨.type c, _, .seq its _, _⟩ => decide (c = "tuple") && (decide (its.size ≤ sizeLine) && relAll (vs.map (Dv.v K)) its.toList)
  | _ => false
theorem tupD_ok {K : PySem.W.Frag} {a : PySem.W.Frag → Addr} {vs : List Dv} (h : tupD a vs K = true) (H : Hp) : SqT K H (a K) (vs.map (Dv.v K)) := by
  unfold tupD at h
  split at h
  next c od its n sl q =>
    obtain ⟨h1, h2⟩ := ba h
    obtain ⟨h3, h4⟩ := ba h2
    exact .inr ⟨_, its, n, q, by rw [of_decide_eq_true h1], rfl, of_decide_eq_true h3, relAll_ok h4⟩
  next => cases h
def valsD (a : PySem.W.Frag → Addr) (kvs : List (Str × Dv)) (K : PySem.W.Frag) : Bool := valsB K (a K) kvs
theorem kdct_of {K : PySem.W.Frag} {w : World} {a : PySem.W.Frag → Addr} {kvs : List (Str × Dv)} (d : ∃ es n, KDict K w (a K) es n) (h : valsD a kvs K = true) {q : Str × Dv} (hq : q ∈ kvs) : KDct K w (a K) q.1 (q.2.v K) := by
  obtain ⟨es, n, d⟩ := d
  obtain ⟨u, e, r⟩ := valsB_ok h hq
  exact ⟨es, n, u, d.1, d.2, e, r⟩
/-- a table's key's object stands where the path says -/
def adrB (a : PySem.W.Frag → Addr) (x : Str) (K : PySem.W.Frag) : Bool := eqO (PySem.W.nsIn K (a K) x) (some (some (.ref (dctAt a x K))))
abbrev AlX : Type := AlT × Bool
def obsX (fa : List Fa) (fn : List DefD) (ts : List Tab) (ps : List (PySem.W.Frag → Bool)) (K : PySem.W.Frag) : AlX := (obsT fa fn ts K, ps.all fun p => p K)
def valX (fn : List DefD) (ts : List Tab) (w : World) : AlX := (valT fn ts w, true)
def obsXG (n : Nat) (fa : List Fa) (fn : List DefD) (ts : List Tab) (ps : List (PySem.W.Frag → Bool)) (g : Addr → Option Obj) : AlX := obsX fa fn ts ps (frG g (asD g n))
def SaysX (fa : List Fa) (fn : List DefD) (ts : List Tab) (ps : List (PySem.W.Frag → Bool)) (w : World) (K : PySem.W.Frag) : Prop := obsX fa fn ts ps K = valX fn ts w
def hookX (n : Nat) (fa : List Fa) (fn : List DefD) (ts : List Tab) (ps : List (PySem.W.Frag → Bool)) : PySem.W.Hook where
  α := AlX
  obs := fun s => obsXG n fa fn ts ps s.heap.get?
  val := fun w => valX fn ts w
  says := fun w h => ∃ K : PySem.W.Frag, K.In h ∧ SaysX fa fn ts ps w K
  of := fun _ _ e => ⟨_, frG_in, e⟩
  keeps := fun _ _ _ ⟨K, hK, c⟩ k => ⟨K, PySem.W.Frag.In.keeps hK k, c⟩
theorem obsXG_eq {n : Nat} {fa : List Fa} {fn : List DefD} {ts : List Tab} {ps : List (PySem.W.Frag → Bool)} {g : Addr → Option Obj} {s : Shared} (h : ∀ a, g a = s.heap.get? a) : obsXG n fa fn ts ps g = (hookX n fa fn ts ps).obs s := by
  have e : g = s.heap.get? := funext h
  rw [e] <;> rfl
section
variable {fa : List Fa} {fn : List DefD} {ts : List Tab} {ps : List (PySem.W.Frag → Bool)} {w : World} {K : PySem.W.Frag}
theorem SaysX.t (c : SaysX fa fn ts ps w K) : SaysT fa fn ts w K := congrArg (fun z : AlX => z.1) c
theorem SaysX.p (c : SaysX fa fn ts ps w K) (i : Nat) {p : PySem.W.Frag → Bool} (h : ps[i]? = some p := by rfl) : p K = true :=
  List.all_eq_true.mp (congrArg (fun z : AlX => z.2) c) p (List.mem_of_getElem? h)
end
end
/-! ### match over texts -/
def isOne (z : Str) (ps : List Str) : Bool := ps.any fun p => decide (z = p)
structure PPat (X : Cx) (p : Pattern) (ps : List Str) : Prop where
  run : ∀ (pins : List (Addr × Obj)) (s : Shared) (σ : St) (H : Hp) (z : Str) (t : Tok) (Q : Option (List (Str × Value)) → Shared → Prop), Inv X pins σ H s →
    (∀ s', Inv X pins σ H s' → Q (if isOne z ps = true then some [] else none) s') → wpAny (model X.prog X.w) X.A (matchPattern p X.env (.str z t)) Q X.xe s
structure POr (X : Cx) (p : List Pattern) (ps : List Str) : Prop where
  run : ∀ (pins : List (Addr × Obj)) (s : Shared) (σ : St) (H : Hp) (z : Str) (t : Tok) (Q : Option (List (Str × Value)) → Shared → Prop), Inv X pins σ H s →
    (∀ s', Inv X pins σ H s' → Q (if isOne z ps = true then some [] else none) s') → wpAny (model X.prog X.w) X.A (matchFirst p X.env (.str z t)) Q X.xe s
def tCases : List (List Str × TS) → Str → TS
  | [], _ => fun D σ H => D.nx σ H
  | c :: r, z => fun D σ H => if isOne z c.1 = true then c.2 D σ H else tCases r z D σ H
structure PCs (X : Cx) (cs : List MatchCase) (tcs : List (List Str × TS)) : Prop where
  run : ∀ (pins : List (Addr × Obj)) (s : Shared) (σ : St) (H : Hp) (D : Ends) (z : Str) (t : Tok) (first : Bool), Inv X pins σ H s → tCases tcs z D σ H →
    wpAny (model X.prog X.w) X.A (matchCases cs X.env (.str z t) first) (SP X pins D) X.xe s
def tMatch (te : TE) (tcs : List (List Str × TS)) : TS := fun D σ H => te σ H fun x H1 => ∃ z, x = .str z ∧ tCases tcs z D σ H1
section
variable {X : Cx} {pos pos' : Pos}
theorem pat_str {x : Str} {j : Nat} : PPat X (.MatchValue (.Constant (.str x) j pos) pos') [x] := by
  refine ⟨fun pins s σ H z t Q I h => ?_⟩
  refine wpAny_matchPattern_Value (thn (pe_str.run pins s σ H (fun v H1 => v = .str x ∧ H1 = H) I ⟨rfl, rfl⟩) fun v s1 ⟨y, H1, I1, r1, e1, e2⟩ => ?_)
  subst e1 e2
  refine thn (op_eq pins s1 σ _ (.str z) (.str x) _ _ (fun c H2 => c = .bl (decide (V.str z = V.str x)) ∧ H2 = _) I1 ⟨t, rfl⟩ r1 ⟨rfl, rfl, rfl⟩) fun c s2 ⟨y, H2, I2, r2, e1, e2⟩ => ?_
  subst e1 e2
  cases r2
  refine wpAny_truthy_bool ?_
  have q := h s2 I2
  have e : isOne z [x] = decide (V.str z = V.str x) := by
    unfold isOne
    rw [List.any_cons, List.any_nil, Bool.or_false]
    exact decide_eq_decide.mpr ⟨fun e => by rw [e], fun e => V.str.inj e⟩
  rw [e] at q
  cases c : decide (V.str z = V.str x) with
  | true => rw [c] at q; exact q
  | false => rw [c] at q; exact q
theorem por_nil : POr X [] [] := ⟨fun pins s σ H z t Q I h => wpAny_matchFirst_nil (h s I)⟩
theorem por_cons {p : Pattern} {ps : List Pattern} {xs ys : List Str} (hp : PPat X p xs) (hr : POr X ps ys) : POr X (p :: ps) (xs ++ ys) := by
  refine ⟨fun pins s σ H z t Q I h => ?_⟩
  refine wpAny_matchFirst_cons (hp.run pins s σ H z t _ I fun s1 I1 => ?_)
  have e : isOne z (xs ++ ys) = (isOne z xs || isOne z ys) := List.any_append
  rw [e] at h
  cases c : isOne z xs with
  | true =>
    rw [c] at h
    exact h s1 I1
  | false =>
    rw [c] at h
    exact hr.run pins s1 σ H z t Q I1 fun s2 I2 => h s2 I2
theorem pat_or {ps : List Pattern} {zs : List Str} (h : POr X ps zs) (hn : namesOfAll (ps.take 1) = [] := by rfl) : PPat X (.MatchOr ps pos) zs := by
  refine ⟨fun pins s σ H z t Q I hq => ?_⟩
  refine wpAny_matchPattern_Or (h.run pins s σ H z t _ I fun s1 I1 => ?_)
  have q := hq s1 I1
  cases c : isOne z zs with
  | true =>
    rw [c] at q
    show Q (some ((namesOfAll (ps.take 1)).filterMap _)) s1
    rw [hn]
    exact q
  | false =>
    rw [c] at q
    exact q
theorem pcs_nil : PCs X [] [] := ⟨fun _ _ σ H _ _ _ _ I h => wpAny_matchCases_nil ⟨σ, H, I, h⟩⟩
theorem pcs_cons {p : Pattern} {ps : List Str} {body : List Stmt} {t : TS} {rest : List MatchCase} {tcs : List (List Str × TS)} (hp : PPat X p ps) (hb : PSs X body t) (hr : PCs X rest tcs) : PCs X (⟨p, none, body⟩ :: rest) ((ps, t) :: tcs) := by
  refine ⟨fun pins s σ H D z tk first I h => ?_⟩
  refine wpAny_matchCases_cons (hp.run pins s σ H z tk _ I fun s1 I1 => ?_)
  have h : if isOne z ps = true then t D σ H else tCases tcs z D σ H := h
  cases c : isOne z ps with
  | true =>
    rw [c] at h
    exact wpAny_assignInOrder_none (hb.run pins s1 σ H D I1 h)
  | false =>
    rw [c] at h
    exact hr.run pins s1 σ H D z tk false I1 h
theorem ps_match {e : Expr} {te : TE} {cs : List MatchCase} {tcs : List (List Str × TS)} (he : PE X e te) (hc : PCs X cs tcs) : PS X (.Match e cs pos) (tMatch te tcs) := by
  refine ⟨fun pins s σ H D I h => ?_⟩
  refine wpAny_Match (thn (he.run pins s σ H _ I h) fun v s1 ⟨x, H1, I1, r1, z, e1, q⟩ => ?_)
  subst e1
  obtain ⟨t, rfl⟩ := r1
  exact hc.run pins s1 σ H1 D z t true I1 q
/-! ### the truth of a list or tuple -/
def tTru (K : PySem.W.Frag) (ta : TE) : TT := fun σ H Q => ta σ H fun x H' => ∃ k, TruV K x H' k ∧ Q k H'
theorem pt_tru {a : Expr} {ta : TE} (ha : PE X a ta) (he : ∀ whole, isTrue a X.env whole = (do let v ← whole; standAt a.pos; holding [v] (truthy v)) := by intro _; rfl) : PT X a (tTru X.K ta) := pt_truth ha he
end
section
variable {σ : St} {H : Hp} {n : St → Hp → Prop} {r : VK} {b c : St → Hp → Prop} {Q : VK} {z : Str} {D : Ends}
theorem g_match {te : TE} {tcs : List (List Str × TS)} (h : te σ H fun x H1 => ∃ z, x = .str z ∧ tCases tcs z (Ends.mk n r b c) σ H1) : tMatch te tcs (Ends.mk n r b c) σ H := h
theorem g_mstr {R : Str → Prop} (h : R z) : ∃ z', V.str z = V.str z' ∧ R z' := ⟨z, rfl, h⟩
theorem g_case {ps : List Str} {t : TS} {tcs : List (List Str × TS)} (h : if isOne z ps = true then t D σ H else tCases tcs z D σ H) : tCases ((ps, t) :: tcs) z D σ H := h
theorem g_caseT {ps : List Str} {t : TS} {tcs : List (List Str × TS)} (e : isOne z ps = true) (h : t D σ H) : tCases ((ps, t) :: tcs) z D σ H := g_case (if_t e h)
theorem g_caseF {ps : List Str} {t : TS} {tcs : List (List Str × TS)} (e : isOne z ps = false) (h : tCases tcs z D σ H) : tCases ((ps, t) :: tcs) z D σ H := g_case (if_f e h)
theorem g_caseN (h : n σ H) : tCases [] z (Ends.mk n r b c) σ H := h
theorem g_truT {K : PySem.W.Frag} {a : Addr} {xs : List V} {R : Bool → Prop} (q : SqT K H a xs) (h : R (!xs.isEmpty)) : ∃ k, TruV K (.ref a) H k ∧ R k := ⟨_, .inr (.inl ⟨xs, q, rfl⟩), h⟩
theorem g_tru {K : PySem.W.Frag} {ta : TE} {R : Bool → Hp → Prop} (h : ta σ H fun x H' => ∃ k, TruV K x H' k ∧ R k H') : tTru K ta σ H R := h
end
/-! ### x(e, .., *y), x a local name that holds a def -/
def HeldS (P : Program) (w : World) (K : PySem.W.Frag) (mg : Str → Option Value) (base : Heap) (k : Nat) (f : Addr) (sp : Sp) : Prop :=
  ∃ (fd : FuncData) (ps : List Str), FnOk P w K mg base CX0 k f fd ps sp ∧ PySem.W.keepIn K (.ref f) = true ∧ Binds K fd ps []
def tCallH (P : Program) (w : World) (K : PySem.W.Frag) (mg : Str → Option Value) (base : Heap) (k : Nat) (tf : TE) (t : TA) : TE := fun σ H Q => tf σ H fun v H0 =>
  ∃ f sp, v = .ref f ∧ HeldS P w K mg base k f sp ∧ t σ H0 fun vs H1 => sp vs H1 Q (fun _ _ _ => False)
theorem pe_callH {X : Cx} {k : Nat} {x : Str} {p pos : Pos} {e : Expr} {es : List Expr} {tf : TE} {t : TA} (hr : Room k X.A) (hf : PE X (.Name x p) tf) (ha : PA X (e :: es) t)
    (he : starEach (e :: es) X.env = (false, eval e X.env) :: starEach es X.env := by rfl) (hst : (backTo pos (starEach es X.env)).any (·.1) = true := by rfl) :
    PE X (.Call (.Name x p) (e :: es) [] pos) (tCallH X.prog X.w X.K X.mg X.base k tf t) := by
  refine ⟨fun pins s σ H Q I h => ?_⟩
  refine wpAny_Call_Name_kw (thn (hf.run pins s σ H _ I h) fun u s1 ⟨v, H1, I1, r1, f, sp, ev, ⟨fd, ps, F, hk, hb⟩, ht⟩ => ?_)
  subst ev
  cases r1
  refine PySem.W.callWith_S2 (h₀ := X.base) I.ok.mod.kin hk (thn (ha.run pos pins s1 σ _ _ I1 ht) fun us s2 ⟨vs, H2, I2, r, q⟩ => ⟨I2.kIn, ?_⟩) he hst
  have q' : sp (vs ++ []) H2 Q (fun _ _ _ => False) := by rw [List.append_nil]; exact q
  exact run_fn (E := fun _ _ _ => False) (CX := CX0) F hr hb .nil (fun _ _ _ _ _ _ _ z => z.elim) I2 r q'
section
variable {σ : St} {H : Hp} {Q : VK}
theorem g_callH {P : Program} {w : World} {K : PySem.W.Frag} {mg : Str → Option Value} {base : Heap} {k : Nat} {tf : TE} {t : TA} (h : tf σ H fun v H0 => ∃ f sp, v = .ref f ∧ HeldS P w K mg base k f sp ∧ t σ H0 fun vs H1 => sp vs H1 Q (fun _ _ _ => False)) :
    tCallH P w K mg base k tf t σ H Q := h
theorem HeldS.of {P : Program} {w : World} {K : PySem.W.Frag} {mg : Str → Option Value} {base : Heap} {j k : Nat} {x : Str} {st : Stmt} {ps : List Str} {sp : Sp} (a : FA K mg x st ps) (F : FnOk P w K mg base CX0 j a.f a.fd ps sp) (h : j ≤ k) : HeldS P w K mg base k a.f sp :=
  ⟨a.fd, ps, F.mono h, a.F.kp, a.b⟩
/-- *y: a tuple's items -/
theorem g_starT {K : PySem.W.Frag} {te : TE} {t : TA} {R : List V → Hp → Prop} (h : te σ H fun x H1 => ∃ p xs, x = V.ref p ∧ SqT K H1 p xs ∧ t σ H1 fun ys H2 => R (xs ++ ys) H2) (mono : ∀ S S' : VK, (∀ v H', S v H' → S' v H') → te σ H S → te σ H S') : StX.tStar K te t σ H R := by
  refine mono _ _ ?_ h
  rintro v H' ⟨p, xs, e, q, k⟩
  exact ⟨p, xs, e, .inl q, k⟩
theorem g_starV {K : PySem.W.Frag} {i : Nat} {p : Addr} {xs : List V} {t : TA} {R : List V → Hp → Prop} (e : σ[i]? = some (some (.ref p))) (q : SqT K H p xs) (h : t σ H fun ys H2 => R (xs ++ ys) H2) : StX.tStar K (tVar i) t σ H R :=
  ⟨_, e, p, xs, rfl, .inl q, h⟩
end
/-! ### a comprehension over zip of two tuples -/
def tLcZ (K : PySem.W.Frag) (a b : Addr) (g : TG) (tt : TT) (te : TE) (vs : List Nat) : TE := tLc (fun _ H R => R (RZ.ItzT K a b) H) g tt te vs
section
variable {K : PySem.W.Frag} {σ : St} {H : Hp} {Q : VK} {g : TG} {tt : TT} {te : TE} {vs : List Nat} {a b : Addr} {xs ys : List V}
theorem g_lcZip {ta : TA} (h : ta σ H fun us H1 => ∃ a b xs ys, us = [.ref a, .ref b] ∧ SqT K H1 a xs ∧ SqT K H1 b ys ∧ tLcZ K a b g tt te vs σ H1 Q) (mono : ∀ S S' : List V → Hp → Prop, (∀ v H', S v H' → S' v H') → ta σ H S → ta σ H S') :
    tLc (RZ.iZipA K ta) g tt te vs σ H Q := by
  refine mono _ _ ?_ h
  rintro us H' ⟨a, b, xs, ys, e, q, q', k⟩
  exact ⟨a, b, xs, ys, e, .inr ⟨q, q', k⟩⟩
theorem g_lcZ (hx : SqT K H a xs) (hy : SqT K H b ys) (hl : xs.length = ys.length) (hz : xs.length ≤ 1000) (v : Nat → V)
    (step : ∀ i x y T H', xs[i]? = some x → ys[i]? = some y → Ex H H' → SqT K H' T [x, y] → ∀ S : VK, (∀ H3, Ex H' H3 → S (v i) H3) →
      g (.ref T) (wipe σ vs) H' fun σ2 H2 => wipe σ2 vs = wipe σ vs ∧ tt σ2 H2 fun b H3 => if b = true then te σ2 H3 S else False)
    (last : ∀ D H', H D = none → Ex H H' → H' D = some (.lst ((List.range xs.length).map v)) → Q (.ref D) H')
    (monoG : ∀ x σ1 H1 (N N' : St → Hp → Prop), (∀ σ2 H2, N σ2 H2 → N' σ2 H2) → g x σ1 H1 N → g x σ1 H1 N')
    (monoT : ∀ σ1 H1 (N N' : Bool → Hp → Prop), (∀ k H2, N k H2 → N' k H2) → tt σ1 H1 N → tt σ1 H1 N') : tLcZ K a b g tt te vs σ H Q := by
  intro D hD
  let Pv : Nat → Hp → Prop := fun i H' => Ex H H' ∧ H' D = some (.lst ((List.range i).map v))
  refine ⟨fun i m H' => m = xs.length - i ∧ i ≤ xs.length ∧ Pv i H', ⟨xs.length, rfl, Nat.zero_le _, Evl.Ex.new hD, upd_same⟩, ?_⟩
  rintro i m H' ⟨rfl, hi, e1, e2⟩
  have qx := Evl.ex_t e1 hx
  have qy := Evl.ex_t e1 hy
  by_cases hlt : i < xs.length
  · have h1 : xs[i]? = some xs[i] := List.getElem?_eq_getElem hlt
    have hlt2 : i < ys.length := by omega
    have h2 : ys[i]? = some ys[i] := List.getElem?_eq_getElem hlt2
    refine .inr ⟨⟨xs, ys, _, _, qx, qy, h1, h2⟩, Pv (i + 1), fun G p => ⟨xs.length - (i + 1), by omega, rfl, hlt, p⟩, fun u G y => ?_⟩
    obtain ⟨T, x', y', rfl, hT, rfl, f1, f2⟩ := y
    have eT : Ex H (upd H' T (.tup [x', y'])) := e1.trans (Evl.Ex.new hT)
    have hS : SqT K (upd H' T (.tup [x', y'])) T [x', y'] := SqT.of upd_same
    refine monoG _ _ _ _ _ ?_ (step i x' y' T _ (f1 xs qx) (f2 ys qy) eT hS (fun y H4 => ∃ acc, H4 D = some (.lst acc) ∧ acc.length < sizeLine ∧ Pv (i + 1) (upd H4 D (.lst (acc ++ [y])))) ?_)
    · rintro σ2 H2 ⟨w, k⟩
      refine ⟨w, monoT _ _ _ _ ?_ k⟩
      intro k H3 q
      cases k with
      | true => exact q
      | false => exact False.elim q
    · intro H3 e3
      have hD3 : H3 D = some (.lst ((List.range i).map v)) := e3 _ _ (Evl.Ex.new hT _ _ e2)
      refine ⟨_, hD3, ?_, Evl.Ex.mut (eT.trans e3) hD, ?_⟩
      · rw [List.length_map, List.length_range]
        exact Nat.lt_of_lt_of_le (Nat.lt_of_lt_of_le hlt hz) (by decide)
      · show upd H3 D _ D = some (.lst ((List.range (i + 1)).map v))
        rw [upd_same, List.range_succ, List.map_append]
        rfl
  · have e : i = xs.length := by omega
    subst e
    exact .inl ⟨⟨xs, ys, qx, qy, .inl (Nat.le_refl _)⟩, last D H' hD e1 e2⟩
theorem g_allL {bs : List Bool} (q : H a = some (.lst (bs.map V.bl))) (h : Q (.bl (bs.all id)) H) : rAll K [.ref a] H Q := ⟨a, bs, rfl, SqL.of q, h⟩
end
/-! ### t.index(x), whole numbers -/
def rTupIx (K : PySem.W.Frag) : V → List V → Hp → VK → Prop := fun x xs H Q => ∃ (p : Addr) (ys : List Int) (z : Int) (j : Nat), x = .ref p ∧ xs = [.int z] ∧ SqT K H p (ys.map V.int) ∧ ys[j]? = some z ∧ (∀ m, m < j → ys[m]? ≠ some z) ∧ Q (.int (j : Nat)) H
theorem flat_ints (ys : List Int) : (ys.map V.int).all flatV = true := by
  rw [List.all_map]
  exact List.all_eq_true.mpr fun _ _ => rfl
theorem mt_tupIx {X : Cx} : MtR X "tuple.index" (rTupIx X.K) := by
  intro pins s σ H x xs v us Q I rx rs h
  obtain ⟨p, ys, z, j, rfl, rfl, hq, hy, hno, q⟩ := h
  cases rx
  obtain ⟨u, rfl, t, rfl⟩ := vals1 rs
  obtain ⟨its, r, pl, hz⟩ := I.tuple hq
  obtain ⟨⟨cls, dd, dt, sl⟩, ho, hc, n, hd⟩ := pl
  simp only at hc hd
  subst hc
  subst hd
  have hl : its.toArray.size = ys.length := by rw [List.size_toArray, ← r.length, List.length_map]
  have hj : j < its.toArray.size := by rw [hl]; exact (List.getElem?_eq_some_iff.mp hy).1
  have at' : ∀ (m : Nat) (hm : m < its.toArray.size), ∃ y t', ys[m]? = some y ∧ its.toArray[m] = Value.int y t' := fun m hm => by
    have hm' : m < ys.length := by rw [← hl]; exact hm
    obtain ⟨w, hw, t', hw'⟩ := r.get (i := m) (x := .int ys[m]) (by simp [hm'])
    refine ⟨ys[m], t', List.getElem?_eq_getElem hm', ?_⟩
    have e := (List.getElem?_eq_some_iff.mp hw).2
    rw [← hw', ← e]
    simp
  refine call_meets PySem.F.slot_tuple_index ⟨_, ho, rfl⟩ PySem.F.entry_tuple_index (PySem.F.args_tuple_index_2 _ _) (TI.tuple_indexAt p its.toArray n dd sl (.int z t) (eqU (.int z)) j hj ?_ ?_)
    ⟨ho, fun w hw => mem_eqAt (x := .int z) ⟨t, rfl⟩ rfl r (flat_ints ys) w (by simpa using hw), ⟨.int (j : Nat), H, I.tok _, ⟨_, rfl⟩, q⟩⟩
  · obtain ⟨y, t', h1, h2⟩ := at' j hj
    rw [hy] at h1
    cases h1
    rw [h2]
    show (z == z) = true
    simp
  · intro m hm hmj
    obtain ⟨y, t', h1, h2⟩ := at' m hm
    rw [h2]
    show (y == z) = false
    refine beq_eq_false_iff_ne.mpr fun e => hno m hmj ?_
    rw [h1, e]
/-! a tuple whose object is known: it has no dict of its own -/
def TupD (H : Hp) (a : Addr) (xs : List V) : Prop := ∃ o : Obj, o.dict = none ∧ H a = some (.frz o (.tup xs))
theorem TupD.sq {K : PySem.W.Frag} {H : Hp} {a : Addr} {xs : List V} (h : TupD H a xs) : SqT K H a xs := by
  obtain ⟨o, _, h⟩ := h
  exact .inl (.inr ⟨o, h⟩)
theorem TupD.ex {H H' : Hp} {a : Addr} {xs : List V} (e : Ex H H') (h : TupD H a xs) : TupD H' a xs := by
  obtain ⟨o, n, h⟩ := h
  exact ⟨o, n, e _ _ h⟩
def r_tupleF (K : PySem.W.Frag) : List V → Hp → VK → Prop := fun xs H Q => ∃ p ys, xs = [.ref p] ∧ SqL K H p ys ∧ ∀ (l : Addr) (o : Obj), H l = none → o.dict = none → Q (.ref l) (upd H l (.frz o (.tup ys)))
theorem call_tupleF {X : Cx} : CallR X (.type "tuple") (r_tupleF X.K) := by
  intro pins s σ H xs us Q I r h
  obtain ⟨p, ys, rfl, hq, q⟩ := h
  obtain ⟨u, rfl, rx⟩ := vals1 r
  cases rx
  obtain ⟨its, r', pl, hz⟩ := I.list hq
  have hlen := r'.length
  refine call_tuple_list pl.isList (fun h' kp => ?_) (by simp only [List.size_toArray] <;> omega)
  have I1 : Inv X pins σ H { s with heap := h' } := I.kept (t' := s.toks) kp
  have I2 : Inv X pins σ (upd H h'.objs.size (.frz { cls := .type "tuple", data := .seq its.toArray } (.tup ys))) { s with heap := h'.push { cls := .type "tuple", data := .seq its.toArray } } :=
    I1.laid (t' := s.toks) (fun b o e => Heap.get?_push_of_some _ e) (Nat.le_refl _) (show ObjOk X.prog X.w _ _ _ (.frz _ (.tup ys)) from ⟨Heap.get?_push_size _ rfl, hz, its, r', IsTup.new _ _⟩)
  exact ⟨.ref h'.objs.size, _, I2, rfl, q _ _ (I1.hok.fresh (Nat.le_refl _)) rfl⟩
theorem g_tupleF {K : PySem.W.Frag} {H : Hp} {Q : VK} {a : Addr} {xs : List V} (q : SqL K H a xs) (h : ∀ p H', H p = none → Ex H H' → TupD H' p xs → Q (.ref p) H') : r_tupleF K [.ref a] H Q :=
  ⟨a, xs, rfl, q, fun p o hp ho => h p _ hp (Evl.Ex.new hp) ⟨o, ho, upd_same⟩⟩
def tBMT (r : V → List V → Hp → VK → Prop) (to : TE) (t : TA) : TE := fun σ H Q => to σ H fun x H1 => (∃ a xs, x = .ref a ∧ TupD H1 a xs) ∧ t σ H1 fun xs H2 => r x xs H2 Q
theorem pe_bmT {X : Cx} {o e : Expr} {es : List Expr} {to : TE} {t : TA} {name : Str} {apos cpos : Pos} {id : String} {r : V → List V → Hp → VK → Prop} (pa : PlainAttrs "tuple") (slot : Slot "tuple" name id) (hty : typeOf (.builtin id) = pure (.type "method_descriptor")) (hm : MtR X id r) (ho : PE X o to) (ha : PA X (e :: es) t)
    (hbase : attributeBase o name X.env (eval o X.env) = eval o X.env := by rfl)
    (hfew : ((backTo cpos (starEach (e :: es) X.env)).all (fun x => !x.1) && (backToKw cpos (keywordEach [] X.env)).all (fun x => x.1.isSome)
      && decide ((e :: es).length + ([] : List Keyword).length + (if ([] : List Keyword).isEmpty then 0 else 1) < 30)) = true := by rfl)
    (hline : (apos.endLine == cpos.line) = true := by rfl) (hs : starEach (e :: es) X.env = (false, eval e X.env) :: starEach es X.env := by rfl) (hplain : (backTo cpos (starEach es X.env)).any (·.1) = false := by rfl) :
    PE X (.Call (.Attribute o name apos) (e :: es) [] cpos) (tBMT r to t) := by
  refine ⟨fun pins s σ H Q I h => ?_⟩
  refine wpAny_Call_method_late hbase hfew hline rfl (thn (ho.run pins s σ H _ I h) fun v s1 ⟨x, H1, I1, r1, ⟨a, xs, ex, ob, od, hx⟩, q1⟩ => ?_)
  subst ex
  obtain rfl : v = Value.ref a := r1
  obtain ⟨g1, _, its, _, g2⟩ : s1.heap.get? a = some ob ∧ xs.length ≤ sizeLine ∧ ∃ its : List Value, Vals xs its ∧ IsTup s1.heap a its.toArray := I1.hok a _ hx
  refine ⟨"tuple", id, pa, slot, hty, g2.typeIs, fun b e => ?_, ?_⟩
  · cases e
    exact ⟨ob, g1, od⟩
  have hA := ha.run cpos pins s1 σ H1 _ I1 q1
  rw [hs] at hA ⊢
  refine Calls.callWith_builtin (by show (false || (backTo cpos (starEach es X.env)).any (·.1)) = false; rw [hplain] <;> rfl) (Calls.evalArgs_plain ?_)
  exact thn hA fun us s2 ⟨vs, H2, I2, r2, q2⟩ => hm pins s2 σ H2 (.ref a) vs _ us Q I2 rfl r2 q2
theorem g_bmT {σ : St} {H : Hp} {Q : VK} {i : Nat} {a : Addr} {xs : List V} {t : TA} {rr : V → List V → Hp → VK → Prop} (e : σ[i]? = some (some (.ref a))) (q : TupD H a xs) (h : t σ H fun ys H2 => rr (.ref a) ys H2 Q) : tBMT rr (tVar i) t σ H Q :=
  ⟨_, e, ⟨a, xs, rfl, q⟩, h⟩
/-! ### keys of a table of the top -/
def rInKD (K : PySem.W.Frag) (w : World) : R2 := fun x y H Q => ∃ (d : Addr) (z : Str) (r : Option Value), x = .str z ∧ y = .ref d ∧ (∃ es n, KDict K w d es n) ∧ PySem.W.nsIn K d z = some r ∧ Q (.bl r.isSome) H
theorem op_inKD {X : Cx} : OpR X (compareOp .In) (rInKD X.K X.w) := by
  intro pins s σ H x y v u Q I rx ry h
  obtain ⟨d, z, r, e1, e2, ⟨es, n, D⟩, e3, q⟩ := h
  exact op_in_kd D pins s σ H x y v u Q I rx ry ⟨z, r, e1, e2, e3, q⟩
section
variable {K : PySem.W.Frag} {w : World} {H : Hp} {Q : VK} {a : Addr} {x : Str}
theorem g_inKDy {v : V} (D : ∃ es n, KDict K w a es n) (d : KDct K w a x v) (h : Q (.bl true) H) : rInKD K w (.str x) (.ref a) H Q := by
  obtain ⟨es, n, u, e, _, e2, _⟩ := d
  exact ⟨a, x, _, rfl, rfl, D, e2, h⟩
theorem g_inKDn (D : ∃ es n, KDict K w a es n) (e : PySem.W.nsIn K a x = some none) (h : Q (.bl false) H) : rInKD K w (.str x) (.ref a) H Q := ⟨a, x, none, rfl, rfl, D, e, h⟩
theorem g_niTu {xs : List V} {v : V} (q : SqT K H a xs) (f1 : flatV v = true) (f2 : xs.all flatV = true) (k : Q (.bl (!inV v xs)) H) : rIn K true v (.ref a) H Q := ⟨a, xs, rfl, .inr q, f1, f2, k⟩
end
def nonB (a : PySem.W.Frag → Addr) (x : Str) (K : PySem.W.Frag) : Bool := He.eqO (PySem.W.nsIn K (a K) x) (some none)
/-- the object that stands at the i-th place of the tuple at a -/
def itmAt (a : PySem.W.Frag → Addr) (i : Nat) (K : PySem.W.Frag) : Addr := match K.lookup (a K) with
  | some ⟨_, _, .seq its _, _⟩ => (match its.toList[i]? with
    | some (.ref b) => b
    | _ => 0)
  | _ => 0
section
open PySem.W
section
variable {prog : Program} {w : World} {A : Around} {E : Value → Shared → Prop} {s : Shared} {T : String} {r d : Addr} {n : Nat} {P : Nat → Value → Prop} {OK : Heap → Prop}
theorem code_tuple_src {Q₁ : Value → Shared → Prop} (S : KdlSrc prog w T r d n P OK) (hT : (Value.type T == Value.type "tuple") = false) (hh : A.handled = none) (hok : OK s.heap) (hn : n ≤ sizeLine)
    (h : ∀ (h' : Heap) (tk : Nat) (acc : Array Value), (∀ b o, s.heap.get? b = some o → h'.get? b = some o) → ItemsOf P acc n →
      Q₁ (.ref h'.objs.size) { s with heap := h'.push { cls := .type "tuple", data := .seq acc }, toks := tk }) :
    codeAny (model prog w) A (.call (.builtin "tuple.__new__") ⟨[.type "tuple", .ref r], []⟩) (wants Q₁ E) s := by
  refine codeAny_of_tree ?_
  show wpAny _ A.in1 (do checkBuiltinCall "tuple.__new__" ⟨[.type "tuple", .ref r], []⟩; again (.builtin "tuple.__new__" ⟨[.type "tuple", .ref r], []⟩)) _ _ s
  refine wpAny_bind (wpAny_of_eq (F.newCall_tuple_1 _) (wpAny_pure ⟨plainId_quiet F.plain_tuple_new _, codeAny_builtin F.entry_tuple_new ?_⟩))
  rw [Around.under_plainId F.plain_tuple_new _]
  have hsub := sub_tuple_self
  have hinit := init_tuple_lookup
  have hmh := madeHere_tuple
  have hTI := S.type s hok
  have hh1 : A.in1.handled = none := hh
  wp_walk using wpAny_typeOf hTI, kdu_collect (A := A.in1) S hh1 hok hn
  intro h' tk acc hk hacc
  show wpAny _ _ (Builtin.Tuple.tupleExact acc.toList.toArray >>= fun v => ret v) _ _ _
  unfold Builtin.Tuple.tupleExact
  refine wpAny_bind (wpAny_newObj_type ?_ (by show acc.toList.toArray.size ≤ sizeLine; simp only [Array.toArray_toList]; rw [hacc.1]; exact hn))
  refine wpAny_pure ?_
  have e : acc.toList.toArray = acc := by simp
  rw [e]
  exact h h' tk acc hk hacc
theorem call_tuple_src {Q : Value → Shared → Prop} (S : KdlSrc prog w T r d n P OK) (hT : (Value.type T == Value.type "tuple") = false) (hh : A.handled = none) (hok : OK s.heap) (hn : n ≤ sizeLine)
    (hQ : ∀ (h' : Heap) (tk : Nat) (acc : Array Value), (∀ b o, s.heap.get? b = some o → h'.get? b = some o) → ItemsOf P acc n →
      Q (.ref h'.objs.size) { s with heap := h'.push { cls := .type "tuple", data := .seq acc }, toks := tk }) :
    wpAny (model prog w) A (call (.type "tuple") [.ref r]) Q E s := by
  refine callType_codes (Q₁ := fun obj s₁ => s₁.TypeIs obj "tuple" ∧ Q obj s₁) F.called_tuple (F.typeCall_tuple_1 _) F.entry_object_init
    (code_tuple_src (A := A.in1) S hT hh hok hn fun h' tk acc hk hacc => ⟨⟨_, Heap.get?_push_size _ rfl, rfl⟩, hQ h' tk acc hk hacc⟩) fun obj s₁ h₁ => ?_
  exact ⟨h₁.1, F.args_object_init_2 obj _, object_init_meets F.called_tuple.init.lookup F.called_tuple.made (by decide) prog w A.in1 _ s₁ ⟨h₁.1, rfl, h₁.2⟩⟩
end
/-! ### the keys of a table -/
def keyS (e : DictEntry) : Option Str := match e.key with
  | .str x _ => some x
  | _ => none
def KeysL (K : PySem.W.Frag) (w : World) (a : Addr) (ks : List Str) : Prop := ∃ es n, KDict K w a es n ∧ es.toList.map keyS = ks.map some ∧ ks.length ≤ 1000
def keysD (a : PySem.W.Frag → Addr) (ks : List Str) (K : PySem.W.Frag) : Bool := match K.lookup (a K) with
  | some ⟨_, _, .dict es _, _⟩ => decide (es.toList.map keyS = ks.map some) && decide (ks.length ≤ 1000)
  | _ => false
theorem keysD_ok {K : PySem.W.Frag} {w : World} {a : PySem.W.Frag → Addr} {ks : List Str} (d : ∃ es n, KDict K w (a K) es n) (h : keysD a ks K = true) : KeysL K w (a K) ks := by
  obtain ⟨es, n, d⟩ := d
  unfold keysD at h
  rw [d.at_] at h
  obtain ⟨h1, h2⟩ := He.ba h
  exact ⟨es, n, d, of_decide_eq_true h1, of_decide_eq_true h2⟩
theorem pd_at {α β : Type} {F : α → β → Prop} : ∀ {xs : List α} {ys : List β}, xs.length = ys.length → (∀ (i : Nat) (x : α) (y : β), xs[i]? = some x → ys[i]? = some y → F x y) → Paired F xs ys
  | [], [], _, _ => .nil
  | [], _ :: _, h, _ => by cases h
  | _ :: _, [], h, _ => by cases h
  | x :: xs, y :: ys, h, f => .cons (f 0 x y rfl rfl) (pd_at (by simpa using h) fun i a b e1 e2 => f (i + 1) a b (by simpa using e1) (by simpa using e2))
def r_tupleK (K : PySem.W.Frag) (w : World) : List V → Hp → VK → Prop := fun xs H Q => ∃ d ks, xs = [.ref d] ∧ KeysL K w d ks ∧ ∀ q, H q = none → Q (.ref q) (upd H q (.tup (ks.map V.str)))
theorem call_tupleK {X : Cx} (hc : X.calm = true) : CallR X (.type "tuple") (r_tupleK X.K X.w) := by
  intro pins s σ H xs us Q I r h
  obtain ⟨d, ks, rfl, ⟨es, n, D, hk, hl⟩, q⟩ := h
  obtain ⟨u, rfl, rx⟩ := vals1 r
  cases rx
  have e0 := I.kIn d _ D.at_
  have raw : s.heap.DictRaw d es n := ⟨_, e0, ⟨rfl, rfl, rfl⟩, rfl⟩
  have len : es.size = ks.length := by
    have := congrArg List.length hk
    simpa using this
  have big : ks.length ≤ sizeLine := Nat.le_trans hl (by decide)
  refine call_tuple_src (KdlSrc.rawDict D.low) (by decide) (I.ok.hd hc) raw (by rw [len]; exact big) fun h' tk acc kp hacc => ?_
  have I1 : Inv X pins σ H { s with heap := h', toks := tk } := I.kept (t' := tk) kp
  have vals : Vals (ks.map V.str) acc.toList := by
    refine pd_at (by have l1 := hacc.1; simp only [List.length_map, Array.length_toList]; omega) fun i x v e1 e2 => ?_
    obtain ⟨hi, ev⟩ := hacc.2 i v (by simpa using e2)
    have e3 : (es.toList.map keyS)[i]? = (ks.map some)[i]? := by rw [hk]
    rw [List.getElem?_map, List.getElem?_map] at e3
    rw [List.getElem?_map] at e1
    have e4 : es.toList[i]? = some es[i] := by simp [hi]
    rw [e4] at e3
    cases ek : ks[i]? with
    | none => rw [ek] at e1; cases e1
    | some z =>
      rw [ek] at e1 e3
      have ez : V.str z = x := Option.some.inj e1
      have e5 : keyS es[i] = some z := Option.some.inj e3
      rw [← ez, ev]
      unfold keyS at e5
      split at e5
      · next y t q' =>
        cases e5
        exact ⟨t, q'⟩
      · cases e5
  have I2 : Inv X pins σ (upd H h'.objs.size (.tup (ks.map V.str))) { s with heap := h'.push { cls := .type "tuple", data := .seq acc }, toks := tk } :=
    I1.laid (t' := tk) (fun b o e => Heap.get?_push_of_some _ e) (Nat.le_refl _) (show ObjOk X.prog X.w _ _ _ (.tup (ks.map V.str)) from ⟨by rw [List.length_map]; exact big, acc.toList, vals, by
      have e : acc.toList.toArray = acc := by simp
      rw [e]
      exact IsTup.new _ _⟩)
  exact ⟨.ref h'.objs.size, _, I2, rfl, q _ (I1.hok.fresh (Nat.le_refl _))⟩
theorem g_tupleK {K : PySem.W.Frag} {w : World} {H : Hp} {Q : VK} {a : Addr} {ks : List Str} (k : KeysL K w a ks) (h : ∀ p H', H p = none → Ex H H' → H' p = some (.tup (ks.map V.str)) → Q (.ref p) H') : r_tupleK K w [.ref a] H Q :=
  ⟨a, ks, rfl, k, fun p hp => h p _ hp (Evl.Ex.new hp) upd_same⟩
end
section
open LamX
/-- a lambda's words -/
structure LW where
  params : Arguments
  body : Expr
  scope : Scope
  pos : Pos
abbrev lamFd (q : Str) (L : LW) (cl : List (Str × Addr)) (dV doc pm : Value) (c : Addr) (ctv : Value) : FuncData := PySem.W.kdv_fn "<lambda>" q L.params (.expr L.body) L.scope cl dV doc pm (.ref c) ctv
/-- the object at f is the lambda -/
def LamO (f : Addr) (q : Str) (L : LW) (cl : List (Str × Addr)) (dV : Value) (c : Addr) : HO := .ext fun h => ∃ (doc pm ctv : Value), h.get? f = some ({ cls := .type "function", data := .func (lamFd q L cl dV doc pm c ctv) } : Obj)
def DfAt (H : Hp) (n : Option Int) (dV : Value) : Prop := match n with
  | none => dV = .none
  | some i => ∃ dt, dV = .ref dt ∧ H dt = some (.tup [.int i])
/-- the lambda stands at f -/
def LamAt (H : Hp) (f : Addr) (q : Str) (L : LW) (cl : List (Str × Addr)) (n : Option Int) : Prop :=
  ∃ (c : Addr) (dV : Value), H f = some (LamO f q L cl dV c) ∧ H c = some (CodeO c q) ∧ DfAt H n dV
theorem LamAt.keeps {H H' : Hp} {f : Addr} {q : Str} {L : LW} {cl : List (Str × Addr)} {n : Option Int} (h : LamAt H f q L cl n) (e : ∀ b o, H b = some o → (∀ xs, o ≠ .lst xs) → (∀ ps, o ≠ .tbl ps) → H' b = some o) : LamAt H' f q L cl n := by
  obtain ⟨c, dV, h1, h2, h3⟩ := h
  refine ⟨c, dV, e _ _ h1 (fun xs z => ?_) (fun xs z => ?_), e _ _ h2 (fun xs z => ?_) (fun xs z => ?_), ?_⟩
  · unfold LamO at z; cases z
  · unfold LamO at z; cases z
  · unfold CodeO at z; cases z
  · unfold CodeO at z; cases z
  · cases n with
    | none => exact h3
    | some i =>
      obtain ⟨dt, e1, e2⟩ := h3
      exact ⟨dt, e1, e _ _ e2 (fun xs z => nomatch z) (fun xs z => nomatch z)⟩
theorem LamAt.ex {H H' : Hp} {f : Addr} {q : Str} {L : LW} {cl : List (Str × Addr)} {n : Option Int} (h : LamAt H f q L cl n) (e : Ex H H') : LamAt H' f q L cl n := h.keeps fun b o q _ _ => e b o q
theorem LamAt.fr {H H' : Hp} {r f : Addr} {q : Str} {L : LW} {cl : List (Str × Addr)} {n : Option Int} {xs : List V} (h : LamAt H f q L cl n) (hr : H r = some (.lst xs)) (e : Fr r H H') : LamAt H' f q L cl n :=
  h.keeps fun b o q n1 _ => e b o (fun z => by rw [z, hr] at q; exact n1 _ (Option.some.inj q).symm) q
theorem LamAt.extN {H H' : Hp} {f : Addr} {q : Str} {L : LW} {cl : List (Str × Addr)} {n : Option Int} (h : LamAt H f q L cl n) (e : ExtN H H') : LamAt H' f q L cl n := h.keeps fun b o q _ n2 => e b o q n2
section
variable {X : Cx} {pins : List (Addr × Obj)} {σ : L2.St} {H : Hp} {s : Shared}
theorem inv_lam {q : Str} {L : LW} {cl : List (Str × Addr)} {dV doc pm ctv : Value} {c : Addr} {o : Obj} {t' : Nat} (I : Inv X pins σ H s) (ho : o = { cls := .type "function", data := .func (lamFd q L cl dV doc pm c ctv) }) :
    Inv X pins σ (L2.upd H s.heap.objs.size (LamO s.heap.objs.size q L cl dV c)) { s with heap := s.heap.push o, toks := t' } := by
  subst ho
  refine I.laid (a := s.heap.objs.size) (fun b u e => Heap.get?_push_of_some _ e) (Nat.le_refl _) ?_
  have e : (s.heap.push ({ cls := .type "function", data := .func (lamFd q L cl dV doc pm c ctv) } : Obj)).get? s.heap.objs.size = some ({ cls := .type "function", data := .func (lamFd q L cl dV doc pm c ctv) } : Obj) := Heap.get?_push_size _ rfl
  exact ⟨⟨doc, pm, ctv, e⟩, ⟨_, e⟩, fun h1 h2 ⟨d, p, t, z⟩ st => ⟨d, p, t, st _ z⟩⟩
theorem lamO_ne {f c : Addr} {q : Str} {L : LW} {cl : List (Str × Addr)} {dV : Value} (ps : Array Value) : LamO f q L cl dV c ≠ .tbl ps := fun z => by
  unfold LamO at z
  cases z
/-- the lambda's object is made: its code object is new, or found in the table -/
theorem lamV_tail {T : List (Addr × Str)} {c P : Addr} {L : LW} {dV : Value} {E : Value → Shared → Prop} {Q : Value → Shared → Prop} (I : Inv X pins σ H s) (TB : TabB X.base X.mg c P) (hcode : X.env.code = .ref c)
    (hm : (P, X.env.qual ++ "<lambda>") ∈ T) (hu : ∀ p ∈ T, p.1 = P → p.2 = X.env.qual ++ "<lambda>") (hT : Tabs T H) (hfree : ∀ y ∈ L.scope.names, y.2 = .free → ∃ c, X.env.cells.lookup y.1 = some c)
    (h : ∀ (f c' : Addr) (H1 : Hp) (s' : Shared), Inv X pins σ H1 s' → ExtN H H1 → Tabs T H1 → H f = none → H1 f = some (LamO f (X.env.qual ++ "<lambda>") L (cloFrom X.env.cells L.scope.names []) dV c') → H1 c' = some (CodeO c' (X.env.qual ++ "<lambda>")) → Q (.ref f) s') :
    wpAny (model X.prog X.w) X.A (makeTail "<lambda>" (X.env.qual ++ "<lambda>") L.params (.expr L.body) L.scope X.env dV .none none L.pos L.pos.line) Q E s := by
  obtain ⟨ps, hP, ht, ha⟩ := hT _ hm
  have bP : s.heap.BuiltinsAt X.mg P := TB.bm.keeps I.bk
  have hP' : s.heap.get? P = some { cls := .none, data := .fields ps } := I.hok P _ hP
  cases hc : codeAmong L.pos ps.toList with
  | none =>
    refine PySem.W.kdv_makeTail (mg := X.mg) (c := c) (P := P) (ps := ps) (closure_ok hfree) I.ok.glob (I.mod.glob.keeps I.bk) hcode (TB.code.keeps I.bk) hP' ht hc TB.gP bP fun c' ctv doc h' tk hx hge hlt hrec htb => ?_
    obtain ⟨c2, oc, vs, t, e2, hoc, hd, hv⟩ := hrec
    cases e2
    have nC : H c' = none := I.hok.fresh hge
    have I1 := inv_table (t' := tk) (more := #[rawInt L.pos.line, rawInt L.pos.col, .ref c']) (h' := h') I hP (fun b o hb e => hx b o hb e) htb hge ⟨oc, vs, t, hoc, hd, hv⟩
    have hE : ExtN H (L2.upd (L2.upd H P (.tbl (ps ++ #[rawInt L.pos.line, rawInt L.pos.col, .ref c']))) c' (CodeO c' (X.env.qual ++ "<lambda>"))) := fun b o e n => by
      rw [upd_ne (ne_of_none e nC), upd_ne (fun z => n ps (Option.some.inj (e.symm.trans (by rw [z]; exact hP))))]
      exact e
    have eL : (ps ++ #[rawInt L.pos.line, rawInt L.pos.col, .ref c']).toList = ps.toList ++ [rawInt L.pos.line, rawInt L.pos.col, .ref c'] := by simp
    have T1 : Tabs T (L2.upd (L2.upd H P (.tbl (ps ++ #[rawInt L.pos.line, rawInt L.pos.col, .ref c']))) c' (CodeO c' (X.env.qual ++ "<lambda>"))) := fun p hp => by
      by_cases hb : p.1 = P
      · rw [hu p hp hb, hb]
        refine ⟨_, by rw [upd_ne (ne_of_none hP nC), upd_same], by rw [eL]; exact PySem.TriplesOk_snoc _ _ _ _ ht, fun p' cv hcv => ?_⟩
        rw [eL] at hcv
        rcases among_app _ ht hcv with z | z
        · obtain ⟨c0, e1, e2⟩ := ha p' cv z
          exact ⟨c0, e1, hE _ _ e2 codeO_ne⟩
        · exact ⟨c', z, upd_same⟩
      · obtain ⟨ps', a1, a2, a3⟩ := hT p hp
        refine ⟨ps', by rw [upd_ne (ne_of_none a1 nC), upd_ne hb]; exact a1, a2, fun p' cv hcv => ?_⟩
        obtain ⟨c0, e1, e2⟩ := a3 p' cv hcv
        exact ⟨c0, e1, hE _ _ e2 codeO_ne⟩
    have nF := I1.hok.fresh (Nat.le_refl _)
    have I2 := inv_lam (q := X.env.qual ++ "<lambda>") (L := L) (cl := cloFrom X.env.cells L.scope.names []) (dV := dV) (c := c') (t' := tk) (doc := doc) (pm := (X.mg "__name__").getD .none) (ctv := ctv) I1 rfl
    refine h h'.objs.size c' _ _ I2 (fun b o e n => ?_) (T1.ext fun b o e => ?_) (I.hok.fresh (Nat.le_trans hge (Nat.le_of_lt hlt))) upd_same ?_
    · have e1 := hE b o e n
      exact (upd_ne (ne_of_none e1 nF)).trans e1
    · exact (upd_ne (ne_of_none e nF)).trans e
    · exact (upd_ne (Nat.ne_of_lt hlt)).trans upd_same
  | some cv =>
    obtain ⟨c', e, hco⟩ := ha L.pos cv hc
    subst e
    refine PySem.W.kdv_makeTailHit (mg := X.mg) (c := c) (P := P) (ps := ps) (closure_ok hfree) I.ok.glob (I.mod.glob.keeps I.bk) hcode (TB.code.keeps I.bk) hP' ht hc bP fun ctv doc h' tk hx hsz => ?_
    have I1 : Inv X pins σ H { s with heap := h', toks := tk } := I.kept hx
    have nF : H h'.objs.size = none := I1.hok.fresh (Nat.le_refl _)
    have I2 := inv_lam (q := X.env.qual ++ "<lambda>") (L := L) (cl := cloFrom X.env.cells L.scope.names []) (dV := dV) (c := c') (t' := tk) (doc := doc) (pm := (X.mg "__name__").getD .none) (ctv := ctv) I1 rfl
    refine h h'.objs.size c' _ _ I2 (fun b o e n => ?_) (hT.ext fun b o e => ?_) nF upd_same ?_
    · exact (upd_ne (ne_of_none e nF)).trans e
    · exact (upd_ne (ne_of_none e nF)).trans e
    · exact (upd_ne (ne_of_none hco nF)).trans hco
end
/-- the names of a lambda without names that the maker's list N holds: its parameters stand outside of N -/
structure LamS1 (N : List Str) (sc scope : Scope) : Prop where
  kind : scope.kind = .function
  co : scope.isCoroutine = false
  gen : scope.isGenerator = false
  own : ∀ y ∈ scope.names, y.2 ≠ .cell ∧ (y.2 = .local → y.1 ∉ N)
  free : ∀ y ∈ scope.names, y.2 = .free → sc.names.lookup y.1 = some .cell ∨ sc.names.lookup y.1 = some .free
def lamS1B (N : List Str) (sc scope : Scope) : Bool :=
  decide (scope.kind = .function) && !scope.isCoroutine && !scope.isGenerator && scope.names.all fun y => !decide (y.2 = .cell) && (!decide (y.2 = .local) || !decide (y.1 ∈ N)) && (!decide (y.2 = .free) || decide (sc.names.lookup y.1 = some .cell) || decide (sc.names.lookup y.1 = some .free))
theorem lamS1_by {N : List Str} {sc scope : Scope} (h : lamS1B N sc scope = true) : LamS1 N sc scope := by
  unfold lamS1B at h
  simp only [Bool.and_eq_true, Bool.or_eq_true, Bool.not_eq_true', decide_eq_true_eq, decide_eq_false_iff_not, List.all_eq_true] at h
  obtain ⟨⟨⟨h1, h2⟩, h3⟩, h4⟩ := h
  refine ⟨h1, h2, h3, fun y hy => ⟨(h4 y hy).1.1, fun e => (h4 y hy).1.2.elim (fun z => absurd e z) id⟩, fun y hy e => ?_⟩
  rcases (h4 y hy).2 with (z | z) | z
  · exact absurd e z
  · exact .inl z
  · exact .inr z
theorem LamS1.has {X : Cx} {scope : Scope} (L : LamS1 X.N X.env.scope scope) (ok : X.Ok) : ∀ y ∈ scope.names, y.2 = .free → ∃ c, X.env.cells.lookup y.1 = some c := fun y hy e => by
  rcases L.free y hy e with k | k
  · exact ok.has _ (.inl k)
  · exact ok.has _ (.inr k)
section
variable {X : Cx} {pins : List (Addr × Obj)} {σ : L2.St} {H HZ : Hp} {s s1 : Shared}
theorem lam_start3 {A : Around} {outer : List Env} {E : XK} {scope : Scope} {f c' : Addr} {h₁ : Heap} {tk : Nat} {m : Str → Option Value} (I : Inv X pins σ H s) (L : LamS1 X.N X.env.scope scope) (e0 : Env0 X.prog X.w X.K X.mg X.base A outer s1 HZ) (hd : A.handled = none)
    (un : Un (frs X.stack) [] H HZ s.heap s1.heap) (hns : h₁.Ns s1.heap.objs.size m) (kp : ∀ b o, s1.heap.get? b = some o → h₁.get? b = some o) :
    Inv (lamCx X A outer s1 HZ E scope f c') [] σ HZ { s1 with heap := h₁, toks := tk } := by
  have hfree := L.has I.ok
  have cm : ∀ {y c}, (cloFrom X.env.cells scope.names []).lookup y = some c → X.env.cells.lookup y = some c := fun {y c} e => by
    rcases cloFrom_mem (PySem.mem_of_lookup e) with hm | ⟨h1, h2⟩
    · cases hm
    · obtain ⟨c1, hc⟩ := hfree _ h1 rfl
      have hc : X.env.cells.lookup y = some c1 := hc
      have e2 : c = c1 := by
        rw [h2, hc] <;> rfl
      rw [e2]
      exact hc
  have look : ∀ {y}, scope.names.lookup y = some .free → ∃ c, (cloFrom X.env.cells scope.names []).lookup y = some c := fun {y} hl => by
    have hy : (y, NameKind.free) ∈ scope.names := PySem.mem_of_lookup hl
    exact mem_lookup (cloFrom_has (cells := X.env.cells) (acc := []) hy)
  have cellK : ∀ {c : Addr} {v : Option Value}, H c = none → s.heap.IsCell c v → h₁.IsCell c v := fun {c v} n ⟨o, ho, hd⟩ => by
    obtain ⟨sl, q⟩ := un.any ho n (by simp)
    exact ⟨_, kp _ _ q, hd⟩
  have noA : ∀ b : Addr, b ∉ (lamCx X A outer s1 HZ E scope f c').ex := fun b z => absurd (show b ∈ ([] : List Addr) from z) (by simp)
  refine ⟨⟨e0.mod, L.kind, rfl, rfl, Nat.le_refl _, fun y z c e1 e2 => I.ok.inj y z c (cm e1) (cm e2), fun y hy => ?_, fun y c z _ => ?_, fun _ => hd, Around.frames_deeper e0.frames, .inr ⟨rfl, rfl⟩, fun b z => absurd z (noA b), e0.bs, e0.bsz, fun b _ _ => noA b,
      fun b z => absurd z (noA b), e0.funs, e0.frf⟩,
    rfl, e0.bare, Un.kept kp, ⟨_, hns, fun i y v e1 e2 e3 => ?_⟩, fun y c e => ?_, e0.hok.fresh (Nat.le_refl _), fun y c e => ?_, fun q hq => absurd (show q ∈ ([] : List (Addr × Obj)) ++ [] from hq) (by simp), e0.hok.kept kp, I.len⟩
  · have hy : scope.names.lookup y = some .cell ∨ scope.names.lookup y = some .free := hy
    rcases hy with hy | hy
    · exact absurd rfl (L.own _ (PySem.mem_of_lookup hy)).1
    · exact look hy
  · have z : false = true := z
    cases z
  · have e3 : Vis scope y := e3
    have e1 : X.N[i]? = some y := e1
    rcases e3 with k | k | k
    · exact absurd (List.mem_of_getElem? e1) ((L.own _ (PySem.mem_of_lookup k)).2 rfl)
    · exact absurd rfl (L.own _ (PySem.mem_of_lookup k)).1
    · obtain ⟨m, hn, hl⟩ := I.loc
      have hvis : Vis X.env.scope y := (L.free _ (PySem.mem_of_lookup k) rfl).elim (fun k => .inr (.inl k)) (fun k => .inr (.inr k))
      obtain ⟨w', r, q⟩ := hl i y v e1 e2 hvis
      obtain ⟨c2, h2⟩ := look k
      refine ⟨w', r, .inr ⟨.inr k, c2, h2, ?_⟩⟩
      have c1 := cm h2
      rcases q with ⟨k', _⟩ | ⟨_, c3, e', z⟩
      · have k' : X.env.scope.names.lookup y = some .local := k'
        rcases L.free _ (PySem.mem_of_lookup k) rfl with k2 | k2 <;> rw [show X.env.scope.names.lookup y = _ from k2] at k' <;> cases k'
      · rw [c1] at e'
        cases e'
        exact cellK (I.freeC y _ c1) z
  · obtain ⟨w', z⟩ := I.cell y c (cm e)
    exact ⟨w', cellK (I.freeC y c (cm e)) z⟩
  · obtain ⟨v, o, ho, hd⟩ := I.cell y c (cm e)
    exact un.free c o ho (I.freeC y c (cm e)) (by simp)
/-- how the lambda's call without arguments binds -/
def LBinds (L : LW) (n : Option Int) : Prop := match n with
  | none => ∀ (q : Str) (cl : List (Str × Addr)) (doc pm : Value) (c : Addr) (ctv : Value), bindArgs (lamFd q L cl .none doc pm c ctv) ⟨[], []⟩ = pure []
  | some _ => ∃ a : Str, L.scope.names.lookup a = some .local ∧ ∀ (q : Str) (cl : List (Str × Addr)) (dt : Addr) (doc pm : Value) (c : Addr) (ctv u : Value),
      ∃ k, bindArgs (lamFd q L cl (.ref dt) doc pm c ctv) ⟨[], []⟩ = seqItems? (.ref dt) >>= k ∧ k (some #[u]) = pure [(a, u)]
theorem lam_binds {M : Model} {A : Around} {L : LW} {n : Option Int} {q : Str} {cl : List (Str × Addr)} {dV doc pm ctv : Value} {c : Addr} {P : List (Str × Value) → Shared → Prop} {E : Value → Shared → Prop} (I : HOk X.prog X.w HZ s1.heap) (b : LBinds L n) (d : DfAt HZ n dV)
    (h : ∀ binds : List (Str × Value), (∀ y ∈ binds, L.scope.names.lookup y.1 = some .local) → P binds s1) : wpAny M A (bindArgs (lamFd q L cl dV doc pm c ctv) ⟨[], []⟩) P E s1 := by
  cases n with
  | none =>
    have e : dV = .none := d
    subst e
    rw [b q cl doc pm c ctv]
    exact wpAny_pure (h [] fun y hy => absurd hy (by simp))
  | some i =>
    obtain ⟨dt, e, hd⟩ := d
    subst e
    obtain ⟨a, ha, b⟩ := b
    obtain ⟨vs, t, r⟩ := (show ∃ vs : List Value, s1.heap.IsTuple dt vs.toArray ∧ Vals [V.int i] vs from by
      have z := I dt _ hd
      obtain ⟨_, vs, r, t⟩ := z
      exact ⟨vs, t, r⟩)
    obtain ⟨o, ho, hc, hdat⟩ := t
    cases r with
    | cons r1 r2 =>
      rename_i u us
      cases r2
      obtain ⟨k, e1, e2⟩ := b q cl dt doc pm c ctv u
      rw [e1]
      obtain ⟨m, hdat⟩ := hdat
      refine wpAny_bind (wpAny_seqItems ho hdat ?_)
      rw [e2]
      exact wpAny_pure (h _ fun y hy => by
        rw [List.mem_singleton] at hy
        rw [hy]
        exact ha)
end

/-! ### the rules -/
def tLamV (T : List (Addr × Str)) (q : Str) (L : LW) (cl : List (Str × Addr)) (n : Option Int) : TE := fun _ H Q => Tabs T H ∧ ∀ (f : Addr) (H1 : Hp), ExtN H H1 → Tabs T H1 → H f = none → LamAt H1 f q L cl n → Q (.ref f) H1
section
variable {X : Cx}
theorem mf_none {M : Model} {A : Around} {E : Value → Shared → Prop} {Q : Value → Shared → Prop} {s : Shared} {name qual : Str} {params : Arguments} {body : FuncBody} {scope : Scope} {env : Env} {pos : Pos} {fl : Nat} (h : wpAny M A (makeTail name qual params body scope env .none .none none pos fl) Q E s) :
    wpAny M A (makeFunction name qual params body scope env [] [] [] pos fl) Q E s := by
  rw [makeFunction_eq]
  simp only [List.zip_nil_right, List.filterMap_nil, List.isEmpty_nil, if_true, pure_bind]
  exact h
theorem mf_one {M : Model} {A : Around} {E : Value → Shared → Prop} {Q : Value → Shared → Prop} {s : Shared} {name qual : Str} {params : Arguments} {body : FuncBody} {scope : Scope} {env : Env} {pos : Pos} {fl : Nat} {v : Value}
    (h : wpAny M A (newTextTuple [v]) (fun dV s' => wpAny M A (makeTail name qual params body scope env dV .none none pos fl) Q E s') E s) :
    wpAny M A (makeFunction name qual params body scope env [v] [] [] pos fl) Q E s := by
  rw [makeFunction_eq]
  simp only [List.zip_nil_right, List.filterMap_nil, List.isEmpty_nil, List.isEmpty_cons, if_true, pure_bind, Bool.false_eq_true, if_false]
  exact wpAny_bind (wpAny_mono h (fun _ _ z => z) fun _ _ z => z)
/-- lambda: body -/
theorem pe_lamV {T : List (Addr × Str)} {c P : Addr} {e : Expr} (L : LW) (he : e = .Lambda L.params L.body L.scope L.pos) (TB : TabB X.base X.mg c P) (hcode : X.env.code = .ref c) (hm : (P, X.env.qual ++ "<lambda>") ∈ T) (hu : ∀ p ∈ T, p.1 = P → p.2 = X.env.qual ++ "<lambda>")
    (S : LamS1 X.N X.env.scope L.scope) (hdef : defaultsOf L.params X.env = ([], [])) : PE X e (tLamV T (X.env.qual ++ "<lambda>") L (cloFrom X.env.cells L.scope.names []) none) := by
  subst he
  refine ⟨fun pins s σ H Q I h => ?_⟩
  obtain ⟨hT, h⟩ := h
  refine PySem.W.kla_eval hdef (mf_none ?_)
  exact lamV_tail I TB hcode hm hu hT (S.has I.ok) fun f c' H1 s' I1 eN T1 nf hf hc => ⟨.ref f, H1, I1, rfl, h f H1 eN T1 nf ⟨c', .none, hf, hc, rfl⟩⟩
/-- lambda a=i: body -/
theorem pe_lamV1 {T : List (Addr × Str)} {c P : Addr} {e : Expr} {i : Int} {j : Nat} {dpos : Pos} (L : LW) (he : e = .Lambda L.params L.body L.scope L.pos) (TB : TabB X.base X.mg c P) (hcode : X.env.code = .ref c) (hm : (P, X.env.qual ++ "<lambda>") ∈ T) (hu : ∀ p ∈ T, p.1 = P → p.2 = X.env.qual ++ "<lambda>")
    (S : LamS1 X.N X.env.scope L.scope) (hdef : defaultsOf L.params X.env = ([eval (.Constant (.int i) j dpos) X.env], [])) : PE X e (tLamV T (X.env.qual ++ "<lambda>") L (cloFrom X.env.cells L.scope.names []) (some i)) := by
  subst he
  refine ⟨fun pins s σ H Q I h => ?_⟩
  obtain ⟨hT, h⟩ := h
  rw [arm_eval_Lambda, hdef]
  show wpAny _ _ (do let dv ← evalAll [eval (.Constant (.int i) j dpos) X.env]; let kdv ← holding dv (evalAllOpt []); makeFunction "<lambda>" (X.env.qual ++ "<lambda>") L.params (.expr L.body) L.scope X.env dv kdv [] L.pos L.pos.line) _ _ s
  have hd : wpAny (model X.prog X.w) X.A (evalAll [eval (.Constant (.int i) j dpos) X.env]) (fun dv s' => ∃ u, dv = [u] ∧ L2.RelV (.int i) u ∧ Inv X pins σ H s') X.xe s := by
    show wpAny _ _ (do let v ← eval (.Constant (.int i) j dpos) X.env; let r ← holding [v] (evalAll []); pure (v :: r)) _ _ s
    refine wpAny_bind (wpAny_mono ((pe_int (X := X) (i := i) (j := j) (pos := dpos)).run pins s σ H (fun v H1 => v = .int i ∧ H1 = H) I ⟨rfl, rfl⟩) (fun u s' z => ?_) fun _ _ z => z)
    obtain ⟨v, H1, I1, r, e1, e2⟩ := z
    subst e1 e2
    exact wpAny_bind (wpAny_holding (wpAny_pure (wpAny_pure ⟨u, rfl, r, I1⟩)))
  refine wpAny_bind (wpAny_mono hd (fun dv s' z => ?_) fun _ _ z => z)
  obtain ⟨u, e1, r, I1⟩ := z
  subst e1
  refine wpAny_bind (wpAny_holding (wpAny_pure (mf_one ?_)))
  refine PySem.wpAny_newTextTuple ?_
  have nD := I1.hok.fresh (Nat.le_refl _)
  have I2 : Inv X pins σ (L2.upd H s'.heap.objs.size (.tup [.int i])) { s' with heap := s'.heap.push { cls := .type "tuple", data := .seq [u].toArray } } := by
    refine I1.laid (t' := s'.toks) (fun b o e => Heap.get?_push_of_some _ e) (Nat.le_refl _) ?_
    exact ⟨by show 1 ≤ sizeLine; rw [sizeLine_eq]; omega, [u], .cons r .nil, ⟨_, Heap.get?_push_size _ rfl, rfl, _, rfl⟩⟩
  have T2 : Tabs T (L2.upd H s'.heap.objs.size (.tup [.int i])) := hT.ext fun b o e => (upd_ne (ne_of_none e nD)).trans e
  exact lamV_tail (dV := .ref s'.heap.objs.size) I2 TB hcode hm hu T2 (S.has I2.ok) fun f c' H1 s2 I3 eN T1 nf hf hc => ⟨.ref f, H1, I3, rfl, h f H1 (fun b o e n => eN b o ((upd_ne (ne_of_none e nD)).trans e) n) T1 (by
      have z := nf
      by_cases hb : f = s'.heap.objs.size
      · rw [hb]; exact nD
      · rw [upd_ne hb] at z; exact z) ⟨c', _, hf, hc, _, rfl, eN _ _ upd_same (fun ps z => nomatch z)⟩⟩
end
/-- what a lambda does when it is called (without arguments) -/
structure LDoes (X : Cx) (k : Nat) (L : LW) (n : Option Int) (t : XK → TE) : Prop where
  S : LamS1 X.N X.env.scope L.scope
  b : LBinds L n
  body : ∀ (A : Around) (outer : List Env) (s : Shared) (H : Hp) (E : XK) (f c' : Addr), Room k (A.deeper (lamEnv X L.scope s.heap.objs.size f c')) → PE (lamCx X A outer s H E L.scope f c') L.body (t E)
section
variable {X : Cx} {pins : List (Addr × Obj)} {σ : L2.St} {H HZ : Hp} {s s1 : Shared}
/-- x(), in the def that got the lambda -/
theorem pe_actV {CXg : CXT} {Eg : XK} {Ng : List Str} {qg : Str} {sg : Scope} {g f : Addr} {cdg : Value} {L : LW} {nd : Option Int} {k i : Nat} {a : Str} {pn : List (Addr × Obj)} {xe : Value → Shared → Prop} {W : WX} {t : XK → TE} {p1 p2 : Pos}
    (I : Inv X pins σ H s) (D : LDoes X k L nd t)
    (tk : Takes ((cxOf CXg X.prog X.w X.K X.mg X.base Ng qg sg g cdg X.A X.stack s H Eg).tr pn xe) W) (hr : Room (k + 1) (X.A.deeper (envOfC qg sg s.heap.objs.size g cdg)))
    (hN : Ng[i]? = some a) (hv : Vis sg a) (hd : (a == ("__debug__" : Str)) = false := by decide) (hcd : (a == ("__classdict__" : Str)) = false := by decide) :
    PE ((cxOf CXg X.prog X.w X.K X.mg X.base Ng qg sg g cdg X.A X.stack s H Eg).tr pn xe) (.Call (.Name a p1) [] [] p2)
      (fun σZ HZ Q => σZ[i]? = some (some (.ref f)) ∧ LamAt HZ f (X.env.qual ++ "<lambda>") L (cloFrom X.env.cells L.scope.names []) nd ∧ t (WE W σZ) σ HZ Q) := by
  refine ⟨fun pinsZ sZ σZ HZ Q IZ h => ?_⟩
  obtain ⟨hs, hc, ht⟩ := h
  refine wpAny_Call_Name_kw (thn ((pe_var (pos := p1) (i := i) hN hv hd hcd).run pinsZ sZ σZ HZ (fun v H1 => v = .ref f ∧ H1 = HZ) IZ ⟨.ref f, hs, rfl, rfl⟩) fun u s1 ⟨v, H1, I1, r1, q1⟩ => ?_)
  obtain ⟨ev, eH⟩ := q1
  subst ev
  rw [eH] at I1
  obtain rfl : u = Value.ref f := r1
  obtain ⟨c', dV, hf, hco, hdf⟩ := hc
  obtain ⟨⟨doc, pm, ctv, of1⟩, _, _⟩ := I1.hok f _ hf
  refine PySem.W.callWith_F0 ⟨_, _, _, _, of1⟩ ?_
  have un : Un (frs X.stack) [] H HZ s.heap s1.heap := I1.base
  obtain ⟨⟨oc, vs, tq, hoc, hdc, hvc⟩, _, _⟩ := I1.hok c' _ hco
  have rc : codeAny (model X.prog X.w) (X.A.deeper (envOfC qg sg s.heap.objs.size g cdg)) (.call (.ref f) ⟨[], []⟩) (CR (L2.CX X.prog X.w) (envOfC qg sg s.heap.objs.size g cdg :: X.stack) X.prog X.w HZ s1 Q (WE W σZ)) s1 := by
    refine PySem.W.kla_callFunE hr.depth of1 rfl D.S.co D.S.gen rfl ⟨c', oc, vs, tq, rfl, hoc, hdc, hvc⟩ ?_
    refine lam_binds (X := X) I1.hok D.b hdf fun binds hloc => ?_
    refine wpAny_newFunctionEnv (fun y hy => (D.S.own y hy).1) hloc (fun h₁ hns hsb => ⟨I1.nolimit.fresh _ hsb, ?_⟩) D.S.kind
    show codeAny _ _ (.expr L.body (lamEnv X L.scope s1.heap.objs.size f c')) _ _
    have kp : ∀ b o, s1.heap.get? b = some o → h₁.get? b = some o := fun b o e => hsb.extBut b o (Nat.ne_of_lt (Heap.lt_size e)) (Heap.get?_push_of_some _ e)
    have J : Inv (lamCx X (X.A.deeper (envOfC qg sg s.heap.objs.size g cdg)) (envOfC qg sg s.heap.objs.size g cdg :: X.stack) s1 HZ (WE W σZ) L.scope f c') [] σ HZ { s1 with heap := h₁, toks := s1.toks + binds.length } :=
      lam_start3 I D.S I1.env0 hr.hd un hns kp
    refine PySem.W.kla_codeExpr (wpAny_mono ((D.body _ _ s1 HZ (WE W σZ) f c' (hr.deeper _)).run [] _ _ HZ Q J ht) (fun v s' hq => ?_) fun e s' hq => hq)
    obtain ⟨w', H', J', rv, q⟩ := hq
    exact ⟨w', H', J'.os, J'.bare, J'.base, J'.hok, rv, q⟩
  have hx : PassesAt (L2.CX X.prog X.w) ((cxOf CXg X.prog X.w X.K X.mg X.base Ng qg sg g cdg X.A X.stack s H Eg).tr pn xe) σZ (WE W σZ) := passAt tk σZ
  refine wpAny_call (codeAny_mono rc fun r s' hq => ?_)
  cases r with
  | error e => exact hx pinsZ HZ s1 e s' I1 hq
  | ok fl =>
    cases fl with
    | ret u => exact I1.after hq
    | next => exact False.elim hq
    | brk => exact False.elim hq
    | cont => exact False.elim hq
end
/-- the def that calls what it got (LA: the lambda stands where it stood; tl: what it does) -/
def GivesV (X : Cx) (Ng : List Str) (x : Str) (sg : Scope) (g : Addr) (cdg : Value) (bg : List Stmt) (a : Str) (TT : (Hp → Prop) → (XK → Hp → VK → Prop) → Hp → VK → Prop) (kg : Nat) : Prop :=
  ∀ (f : Addr) (LA : Hp → Prop) (s : Shared) (H : Hp) (Q : VK) (tl : XK → Hp → VK → Prop), Room kg (X.A.deeper (envOfC x sg s.heap.objs.size g cdg)) →
    (∀ (W : WX) (pn : List (Addr × Obj)) (xe : Value → Shared → Prop) (p1 p2 : Pos), Takes ((cxOf C8.CX0 X.prog X.w X.K X.mg X.base Ng x sg g cdg X.A X.stack s H C8.E0).tr pn xe) W →
      PE ((cxOf C8.CX0 X.prog X.w X.K X.mg X.base Ng x sg g cdg X.A X.stack s H C8.E0).tr pn xe) (.Call (.Name a p1) [] [] p2) (fun σZ HZ Q => σZ[0]? = some (some (.ref f)) ∧ LA HZ ∧ tl (WE W σZ) HZ Q)) →
    TT LA tl H Q → ∃ t, PSs (cxOf C8.CX0 X.prog X.w X.K X.mg X.base Ng x sg g cdg X.A X.stack s H C8.E0).nox bg t ∧ t { nx := fun _ H' => Q .non H', rt := Q } (L2.start Ng [.ref f]) H
/-- the lambdas that a call may hand on: each with what it does -/
def LAll (X : Cx) (k : Nat) (LL : List (LW × Option Int × (XK → TE))) : Prop := ∀ p ∈ LL, LDoes X k p.1 p.2.1 p.2.2
theorem lall_nil {X : Cx} {k : Nat} : LAll X k [] := fun p h => absurd h (by simp)
theorem lall_cons {X : Cx} {k : Nat} {L : LW} {n : Option Int} {t : XK → TE} {r : List (LW × Option Int × (XK → TE))} (h : LDoes X k L n t) (hr : LAll X k r) : LAll X k ((L, n, t) :: r) := fun p hp => by
  rcases List.mem_cons.mp hp with e | e
  · rw [e]; exact h
  · exact hr p e
def tCallLam (q : Str) (cells : List (Str × Addr)) (LL : List (LW × Option Int × (XK → TE))) (TT : (Hp → Prop) → (XK → Hp → VK → Prop) → Hp → VK → Prop) (te : TE) : TE := fun σ H Q => te σ H fun v H1 =>
  ∃ (j : Nat) (f : Addr) (L : LW) (n : Option Int) (t : XK → TE), LL[j]? = some (L, n, t) ∧ v = .ref f ∧ LamAt H1 f q L (cloFrom cells L.scope.names []) n ∧
    TT (fun H' => LamAt H' f q L (cloFrom cells L.scope.names []) n) (fun E H' Q' => t E σ H' Q') H1 Q
section
variable {X : Cx}
/-- x(e), e a lambda of the maker's -/
theorem pe_callLam {LL : List (LW × Option Int × (XK → TE))} {TT : (Hp → Prop) → (XK → Hp → VK → Prop) → Hp → VK → Prop} {x a qual : Str} {g : Addr} {k : Nat} {params : Arguments} {bg : List Stmt} {sg : Scope} {fd : FuncData} {Ng : List Str} {e : Expr} {te : TE} {p pos : Pos}
    (hg : Gl X x) (hm : X.mg x = some (.ref g)) (F : FunD X.K x qual params bg sg [] [] g fd) (hb : L2.Binds X.K fd [a] []) (Sg : FnScope Ng [a] sg) (hNg : Ng[0]? = some a) (hva : Vis sg a) (hq : qual = x)
    (hG : ∀ cdv, GivesV X Ng x sg g cdv bg a TT (k + 1)) (hr : Room (k + 2) X.A) (hL : LAll X k LL) (he : PE X e te)
    (hst : starEach [e] X.env = [(false, eval e X.env)] := by rfl) (hpl : (backTo pos (starEach [] X.env)).any (·.1) = false := by rfl)
    (hdb : (x == ("__debug__" : Str)) = false := by decide) (hd : (a == ("__debug__" : Str)) = false := by decide) (hcd : (a == ("__classdict__" : Str)) = false := by decide) :
    PE X (.Call (.Name x p) [e] [] pos) (tCallLam (X.env.qual ++ "<lambda>") X.env.cells LL TT te) := by
  subst hq
  refine ⟨fun pins s σ H Q I h => ?_⟩
  refine wpAny_Call_Name_kw (ld_glob I hg hm ?_ hdb)
  have ha : PA X [e] (tCons te tNil) := pa_cons he pa_nil hst
  refine PySem.W.callWith_K (h₀ := X.base) I.ok.mod.kin F.kp (thn (ha.run pos pins s σ H (fun vs H1 => match vs with
    | [v] => ∃ (j : Nat) (f : Addr) (L : LW) (n : Option Int) (t : XK → TE), LL[j]? = some (L, n, t) ∧ v = .ref f ∧ LamAt H1 f (X.env.qual ++ "<lambda>") L (cloFrom X.env.cells L.scope.names []) n ∧
        TT (fun H' => LamAt H' f (X.env.qual ++ "<lambda>") L (cloFrom X.env.cells L.scope.names []) n) (fun E H' Q' => t E σ H' Q') H1 Q
    | _ => False) I h) fun us s1 hh => ?_) hst hpl
  obtain ⟨vs, H1, I1, r1, hh⟩ := hh
  obtain ⟨v, ev⟩ : ∃ v, vs = [v] := by
    match vs, hh with
    | [v], _ => exact ⟨v, rfl⟩
  subst ev
  obtain ⟨j, f, L, n, t, hj, e1, hf, hq⟩ := hh
  subst e1
  refine ⟨I1.kIn, ?_⟩
  cases r1 with
  | cons rv rn =>
    rename_i u us'
    cases rn
    obtain rfl : u = Value.ref f := rv
    obtain ⟨oc, od, dV, kV, doc, pm, an, cdv, ct, osl, rfl, lk, hcg, _, _⟩ := F.ex
    have rc : codeAny (model X.prog X.w) X.A (.call (.ref g) ⟨[.ref f], []⟩) (CR C8.CX0 X.stack X.prog X.w H1 s1 Q C8.E0) s1 := by
      have b := hb s1 [.ref f] I1.kIn rfl
      refine run_ofS (N := Ng) (ps := [a]) (us := [.ref f]) (vs := [.ref f]) lk hcg Sg hr I1.env0 b (.cons rfl .nil) rfl fun hr' => ?_
      have D := hL _ (List.mem_of_getElem? hj)
      obtain ⟨t', ht', hq'⟩ := hG cdv f (fun H' => LamAt H' f (X.env.qual ++ "<lambda>") L (cloFrom X.env.cells L.scope.names []) n) s1 H1 Q (fun E H' Q' => t E σ H' Q') hr'
        (fun W pn xe p1 p2 tk => pe_actV (i := 0) I1 D tk hr' hNg hva hd hcd) hq
      exact ⟨t', ht'.nox, hq'⟩
    refine wpAny_call (codeAny_mono rc fun r s2 hq => ?_)
    cases r with
    | error e => exact (show False from hq).elim
    | ok fl =>
      cases fl with
      | ret u => exact I1.after hq
      | next => exact False.elim hq
      | brk => exact False.elim hq
      | cont => exact False.elim hq
end
end
section
open LamX
/-! ### an error class over TimeError over ValueError -/
structure ErrC (K : PySem.W.Frag) (C : Addr) : Prop where
  x : PySem.W.excIn K C [.type "ValueError", .type "Exception", .type "BaseException", .type "object"] "ValueError.__new__" = true
  kp : PySem.W.keepIn K (.ref C) = true
  b : PySem.W.subIn K (.ref C) (.type "BaseException") = some true
  t : PySem.W.typeIn K (.ref C) = some (.type "type")
  e : ExcC K C
def errB (C : PySem.W.Frag → Addr) (K : PySem.W.Frag) : Bool :=
  PySem.W.excIn K (C K) [.type "ValueError", .type "Exception", .type "BaseException", .type "object"] "ValueError.__new__" && (PySem.W.keepIn K (.ref (C K)) && (decide (PySem.W.subIn K (.ref (C K)) (.type "BaseException") = some true) &&
    (decide (PySem.W.typeIn K (.ref (C K)) = some (.type "type")) && (decide (PySem.W.findIn K (.ref (C K)) "__getattribute__" = some (some (.builtin "BaseException.__getattribute__"))) && (decide (PySem.W.findIn K (.ref (C K)) "__getattr__" = some none) &&
    (PySem.W.hasDictIn K (C K) && (decide (PySem.W.findIn K (.ref (C K)) "__class__" = some (some (.builtin "object.__class__"))) && (decide (PySem.W.specialIn K (.builtin "object.__class__") "__get__" = some (some (.builtin "getset_descriptor.__get__"))) &&
    (decide (PySem.W.takesIn K (.builtin "object.__class__") = some true) && decide (PySem.W.mroIn K (C K) (.type "object") = some true))))))))))
theorem errB_ok {C : PySem.W.Frag → Addr} {K : PySem.W.Frag} (h : errB C K = true) : ErrC K (C K) := by
  unfold errB at h
  simp only [Bool.and_eq_true, decide_eq_true_eq] at h
  obtain ⟨h1, h2, h3, h4, h5, h6, h7, h8, h9, h10, h11⟩ := h
  exact ⟨h1, h2, h3, h4, h5, h6, h3, h7, h8, h9, h10, h11⟩
/-- each pair of the classes: the same or not -/
def kitsB (Cs : List (PySem.W.Frag → Addr)) (K : PySem.W.Frag) : Bool := Cs.all fun C => Cs.all fun D => decide (PySem.W.kitOne K (.ref (C K)) (.ref (D K)) = some (decide (C K = D K)))
/-- the classes' places differ -/
def apartB (Cs : List (PySem.W.Frag → Addr)) (K : PySem.W.Frag) : Bool := decide ((Cs.map fun C => C K).Nodup)
def excB (C T : PySem.W.Frag → Addr) (K : PySem.W.Frag) : Bool := decide (PySem.W.exmOne K (.ref (C K)) (.ref (T K)) = some true)
structure Kits (K : PySem.W.Frag) (cs : List Addr) : Prop where
  k : ∀ c ∈ cs, ∀ d ∈ cs, PySem.W.kitOne K (.ref c) (.ref d) = some (decide (c = d))
  nd : cs.Nodup
theorem kits_ok {Cs : List (PySem.W.Frag → Addr)} {K : PySem.W.Frag} (h : kitsB Cs K = true) (h2 : apartB Cs K = true) : Kits K (Cs.map fun C => C K) := by
  refine ⟨fun c hc d hd => ?_, of_decide_eq_true h2⟩
  obtain ⟨C, hC, e⟩ := List.mem_map.mp hc
  obtain ⟨D, hD, e2⟩ := List.mem_map.mp hd
  subst e e2
  exact of_decide_eq_true (List.all_eq_true.mp (List.all_eq_true.mp h C hC) D hD)
theorem nodup_ix {α : Type} {c : α} : ∀ {cs : List α} {i j : Nat}, cs.Nodup → cs[i]? = some c → cs[j]? = some c → i = j
  | [], _, _, _, h, _ => by simp at h
  | a :: r, 0, 0, _, _, _ => rfl
  | a :: r, 0, j + 1, nd, h1, h2 => by
    have e : a = c := Option.some.inj h1
    exact absurd (List.mem_of_getElem? (show r[j]? = some a by rw [e]; exact h2)) (List.nodup_cons.mp nd).1
  | a :: r, i + 1, 0, nd, h1, h2 => by
    have e : a = c := Option.some.inj h2
    exact absurd (List.mem_of_getElem? (show r[i]? = some a by rw [e]; exact h1)) (List.nodup_cons.mp nd).1
  | a :: r, i + 1, j + 1, nd, h1, h2 => congrArg Nat.succ (nodup_ix (List.nodup_cons.mp nd).2 h1 h2)
theorem Kits.at {K : PySem.W.Frag} {cs : List Addr} (k : Kits K cs) {i j : Nat} {c d : Addr} (hi : cs[i]? = some c) (hj : cs[j]? = some d) : PySem.W.kitOne K (.ref c) (.ref d) = some (decide (i = j)) := by
  rw [k.k c (List.mem_of_getElem? hi) d (List.mem_of_getElem? hj)]
  refine congrArg some (decide_eq_decide.mpr ⟨fun e => ?_, fun e => ?_⟩)
  · subst e
    exact nodup_ix k.nd hi hj
  · subst e
    rw [hi] at hj
    exact Option.some.inj hj
/-- raise X('..') of such a class -/
theorem ps_err {X : Cx} {x m : Str} {j : Nat} {p p2 pos pos2 : Pos} {C : Addr} {W : WX} (hc : X.calm = true) (tk : Takes X W) (gC : X.mg x = some (.ref C)) (e : ErrC X.K C) (hg : Gl X x) (hdb : (x == ("__debug__" : Str)) = false := by decide) :
    PS X (.Raise (some (.Call (.Name x p) [.Constant (.str m) j p2] [] pos)) none pos2) (fun _ σ H => W (.ref C) none σ H) :=
  ps_raise hc tk (pmk_own PySem.F.excBase_ValueError e.x gC e.kp (raises_own e.b e.t) hg hdb)
/-- what leaves a callee leaves the caller -/
theorem passU {X : Cx} {E : XK} (tk : Takes X (fun cls d _ H => E cls d H)) : Passes (L2.CX X.prog X.w) X E := passes_call tk fun _ _ _ _ h => h
/-! ### isinstance of a caught error, its class told by the reading -/
def rIsX (K : PySem.W.Frag) (a : Addr) (cls : Value) (d : Option Addr) : List V → Hp → VK → Prop := fun xs H Q => ∃ (D : Addr) (c : Addr) (b : Bool), cls = .ref D ∧ d = none ∧ ExcC K D ∧ xs = [.ref a, .ref c] ∧ PySem.W.kitOne K (.ref D) (.ref c) = some b ∧ Q (.bl b) H
theorem call_isX {X : Cx} {a : Addr} {cls : Value} {d : Option Addr} {oe : Obj} {pn : List (Addr × Obj)} (hz : Zc cls d oe) (hf : ∃ vs, oe.data = .fields vs) : CallR (X.suite a ((a, oe) :: pn)) (.builtin "isinstance") (rIsX X.K a cls d) := by
  intro pins s σ H xs us Q I r h
  obtain ⟨D, c, b, e1, e2, C, e3, e4, q⟩ := h
  subst e1 e2
  exact call_isE C hz hf pins s σ H xs us Q I r ⟨.ref c, .ref c, b, e3, fun u (hu : u = .ref c) => hu, e4, q⟩
/-! ### xs.count(y) of flat values -/
def rCntF (K : PySem.W.Frag) : V → List V → Hp → VK → Prop := fun x xs H Q => ∃ (p : Addr) (ys : List V) (y : V), x = .ref p ∧ xs = [y] ∧ SqL K H p ys ∧ flatV y = true ∧ ys.all flatV = true ∧ Q (.int ((ys.countP fun z => eqV z y : Nat) : Int)) H
theorem cnt_eqU {y : V} : ∀ {xs : List V} {us : List Value}, Vals xs us → xs.all flatV = true → us.countP (eqU y) = xs.countP fun z => eqV z y
  | _, _, .nil, _ => rfl
  | x :: xs, v :: us, .cons r t, f => by
    rw [List.all_cons, Bool.and_eq_true] at f
    rw [List.countP_cons, List.countP_cons, cnt_eqU t f.2, eqU_of r f.1]
theorem mt_countF {X : Cx} : MtR X "list.count" (rCntF X.K) := by
  intro pins s σ H x xs v us Q I rx rxs h
  obtain ⟨p, ys, y, rfl, rfl, hs, fy, fys, q⟩ := h
  cases rx
  obtain ⟨u, rfl, ru⟩ := rxs.one
  obtain ⟨its, rv, ⟨⟨cls, dd, data, sl⟩, n, ho, hc, hdn, hd⟩, hlen⟩ := I.list hs
  simp only at hc hd
  subst hc hd
  refine call_meets PySem.F.slot_list_count ⟨_, ho, rfl⟩ PySem.F.entry_list_count (PySem.F.args_list_count_2 _ _)
    (SeqAt.list_countAt p its.toArray n dd sl u (eqU y)) ⟨ho, fun y' hy => mem_eqAt ru fy rv fys y' (by simpa using hy), ?_⟩
  refine ⟨.int _, H, I.tok _, ⟨s.toks, ?_⟩, q⟩
  show Value.int ((its.toArray.toList.countP (eqU y) : Nat) : Int) s.toks = _
  rw [show its.toArray.toList = its from rfl, cnt_eqU rv fys]
/-! ### first, *others = xs -/
def gStar (K : PySem.W.Frag) (t : TGs) : TG := fun v σ H Q => ∃ a x r, v = .ref a ∧ SqL K H a (x :: r) ∧ ∀ l, H l = none → t [x, .ref l] σ (L2.upd H l (.lst r)) Q
section
variable {prog : Program} {w : World} {A : Around} {s : Shared}
theorem walks_rest {it l : Addr} {items : Array Value} (hh : A.handled = none) (hne : l ≠ it) : WalksS prog w A it [it, l] [it] (fun a b => a = b) (items.size - 1) (fun i v => items[i + 1]? = some v)
    (fun i s => s.heap.IsListIter it l (i + 1) ∧ s.heap.IsList l items ∧ i + 1 ≤ max 1 items.size) where
  sub := by
    intro b hb
    rw [List.mem_singleton] at hb
    rw [hb]
    exact List.mem_cons_self
  grefl := fun _ => rfl
  gtrans := fun _ _ _ h1 h2 => h1.trans h2
  frame := fun i s h' tk ⟨h1, h2, h3⟩ _ k => by
    obtain ⟨o1, e1, r1⟩ := h1
    obtain ⟨o2, e2, r2⟩ := h2
    exact ⟨⟨o1, k it (by simp) _ e1, r1⟩, ⟨o2, k l (by simp) _ e2, r2⟩, h3⟩
  item := fun i s Q E hi ⟨h1, h2, h3⟩ hQ => by
    have lt : i + 1 < items.size := by omega
    refine wpAny_pyNext_list_item h1 h2 (x := items[i + 1]) (by simp [lt]) fun h' hit hs => ?_
    exact hQ _ _ (by simp [lt]) ⟨hit, h2.extBut hs.extBut hne, by omega⟩ ⟨fun b o hb e => hs.extBut b o (by simpa using hb) e, rfl, rfl, rfl, Nat.le_refl _⟩
  done := fun s Q E ⟨h1, h2, h3⟩ hQ => by
    refine wpAny_pyNext_list_end hh h1 h2 (by simp; omega) fun h' he => ?_
    exact hQ _ ⟨fun b o hb e => he b o (by simpa using hb) e, rfl, rfl, rfl, Nat.le_refl _⟩
  self := fun i s Q E ⟨h1, _, _⟩ hQ => wpAny_pyIter_listiter h1 hQ
theorem unpack_star {l : Addr} {x : Value} {r : List Value} {E : Value → Shared → Prop} {Q : List Value → Shared → Prop} (hh : A.handled = none) (hl : s.heap.IsList l (x :: r).toArray) (hz : r.length ≤ sizeLine)
    (hQ : ∀ (h' : Heap) (tk : Tok), (∀ b o, s.heap.get? b = some o → h'.get? b = some o) → Q [x, .ref h'.objs.size] { s with heap := h'.push { cls := .type "list", data := .seq r.toArray }, toks := tk }) :
    wpAny (model prog w) A (unpackItems (.ref l) 2 (some 1)) Q E s := by
  have hlt : l ≠ s.heap.objs.size := by obtain ⟨o, ho, _⟩ := hl; exact Nat.ne_of_lt (Heap.lt_size ho)
  unfold unpackItems
  refine wpAny_bind ?_
  unfold notIterableAtAll
  refine wpAny_bind (wpAny_specialOf hl.typeIs PySem.slot_list_iter.lookup ?_)
  refine wpAny_pure ?_
  simp only [Bool.false_eq_true, if_false]
  refine wpAny_bind (wpAny_holding (wpAny_pyIter_list hl ?_))
  refine wpAny_bind (wpAny_holding (PySem.W.kun_draw hlt 1 0 _ _ ⟨_, Heap.get?_push_size _ rfl, rfl, rfl⟩ (hl.push _) (by simp) fun h₁ hit₁ hs₁ => ?_))
  rw [if_neg (by simp)]
  have hl₁ : h₁.IsList l (x :: r).toArray := (hl.push _).extBut hs₁.extBut hlt
  have hz1 : h₁.objs.size = s.heap.objs.size + 1 := by rw [hs₁.1, Heap.size_push]
  refine wpAny_bind (wpAny_holding ?_)
  refine wpAny_collect_iter (hn := by simpa using hz) (.inr (.inr (.inl rfl))) (walks_rest (A := A.in1) (items := (x :: r).toArray) hh hlt) (fun i s' h => h.1.typeIs) ⟨hit₁, hl₁, by simp⟩ (fun b hb => ?_) List.mem_cons_self fun s' acc hm ha => ?_
  · show b < h₁.objs.size
    have z : l < s.heap.objs.size := by obtain ⟨o, ho, _⟩ := hl; exact Heap.lt_size ho
    rcases List.mem_cons.mp hb with e | e
    · rw [e, hz1]; exact Nat.lt_succ_self _
    · rw [List.mem_singleton] at e
      rw [e, hz1]; exact Nat.lt_succ_of_lt z
  · have ea : acc.toList = r := by
      obtain ⟨e1, e2⟩ := ha
      refine List.ext_getElem? fun j => ?_
      cases hj : acc.toList[j]? with
      | none =>
        have z : acc.size ≤ j := by simpa using hj
        rw [e1] at z
        simp at z
        simp [z]
      | some v =>
        have z := e2 j v (by simpa using hj)
        simpa using z.symm
    rw [ea]
    show wpAny _ _ (if r.length < 2 - 1 - 1 then _ else _) _ _ s'
    rw [if_neg (by omega)]
    show wpAny _ _ (do let z ← newList (r.take (r.length - 0)); pure (List.take 1 (List.drop 0 (x :: r)) ++ [z] ++ r.drop (r.length - 0))) _ _ s'
    rw [Nat.sub_zero, List.take_length, List.drop_length]
    obtain ⟨hp, g, d, t, os⟩ := s'
    obtain ⟨k1, k2, k3, k4, k5⟩ := hm
    dsimp only at k1 k2 k3 k4
    subst k2 k3 k4
    refine wpAny_bind (wpAny_newList ?_)
    refine wpAny_pure ?_
    exact hQ hp t fun b o e => k1 b o (fun z => by
      rw [List.mem_singleton] at z
      rw [z] at e
      exact absurd (Heap.lt_size e) (Nat.lt_irrefl _)) (hs₁.extBut b o (Nat.ne_of_lt (Heap.lt_size e)) (Heap.get?_push_of_some _ e))
end
theorem pg_star {X : Cx} {e1 e2 : Expr} {k : Nat} {p pos : Pos} {t : TGs} (hc : X.calm = true) (h : PGs X [e1, e2] t)
    (hn : (assignEach [e1, .Starred e2 p] X.env).map (·.2) = (assignEach [e1, e2] X.env).map (·.2) := by rfl) (hl : (assignEach [e1, .Starred e2 p] X.env).length = 2 := by rfl) (hst : (assignEach [e1, .Starred e2 p] X.env).findIdx? (·.1) = some 1 := by rfl) :
    PG X (.Tuple [e1, .Starred e2 p] k pos) (gStar X.K t) := by
  refine ⟨fun pins s σ H v u Q I r hw => ?_⟩
  obtain ⟨a, x, xs, e0, hq, hw⟩ := hw
  subst e0
  cases r
  obtain ⟨its, rv, pl, hz⟩ := I.list hq
  have hl' : s.heap.IsList a its.toArray := by
    obtain ⟨o, m, e, c, d, q⟩ := pl
    exact ⟨o, e, c, m, q⟩
  cases rv with
  | cons r1 r2 =>
    rename_i u us
    rw [PyProof.Rows.assign_Tuple]
    refine wpAny_bind (wpAny_standAt ?_)
    unfold unpack
    rw [hl, hst, hn]
    have hz' : us.length ≤ sizeLine := by
      have z2 := r2.length
      simp at hz
      omega
    refine wpAny_bind (wpAny_holding (unpack_star (I.ok.hd hc) hl' hz' fun h' tk hx => ?_))
    have I1 : Inv X pins σ H { s with heap := h', toks := tk } := I.kept hx
    have nF := I1.hok.fresh (Nat.le_refl _)
    have I2 : Inv X pins σ (L2.upd H h'.objs.size (.lst xs)) { s with heap := h'.push { cls := .type "list", data := .seq us.toArray }, toks := tk } := by
      refine I1.laid (t' := tk) (fun b u e => Heap.get?_push_of_some _ e) (Nat.le_refl _) ?_
      exact ⟨by rw [r2.length]; exact hz', us, 0, r2, Heap.get?_push_size _ rfl⟩
    exact h.run pins _ σ _ [x, .ref h'.objs.size] [u, .ref h'.objs.size] Q I2 (.cons r1 (.cons rfl .nil)) (hw _ nF)
/-! ### a def whose code object is told -/
theorem fnC {P : Program} {w : World} {K : PySem.W.Frag} {mg : Str → Option Value} {base : Heap} {x qual : Str} {params : Arguments} {body : List Stmt} {scope : Scope} {f : Addr} {fd : FuncData} {CX : CXT} {N ps : List Str} {k : Nat} {sp : Sp} {p : He.Defn}
    (F : FunD K x qual params body scope [] [] f fd) (hf : He.fAd K p = f) (S : FnScope N ps scope) (len : ∀ vs H Q E, sp vs H Q E → vs.length = ps.length)
    (hbody : ∀ (A : Around) (outer : List Env) (s : Shared) (H : Hp) (vs : List V) (Q : VK) (E : XK), Room k (A.deeper (envOfC qual scope s.heap.objs.size f (.ref (He.cT K p).1))) → sp vs H Q E →
      ∃ t, PSs (cxOf CX P w K mg base N qual scope f (.ref (He.cT K p).1) A outer s H E) body t ∧ t { nx := fun _ H' => Q .non H', rt := Q } (start N vs) H) : FnOk P w K mg base CX (k + 1) f fd ps sp := by
  obtain ⟨oc, od, dV, kV, doc, pm, an, cdv, ct, osl, rfl, lk, hcd, _, _⟩ := F.ex
  obtain ⟨c, rfl⟩ := He.codeIn_ref hcd
  have e : He.codeOf K p = c := He.codeOf_eq (by rw [hf]; exact lk) rfl
  have e2 : (He.cT K p).1 = c := e
  rw [e2] at hbody
  exact fn_of lk hcd S len fun A outer s H vs Q E hr hsp => hbody A outer s H vs Q E hr hsp

/-! ### methods of texts, with names -/
def rStrSplit : V → List V → Hp → VK → Prop := fun x xs H Q => ∃ a b, x = .str a ∧ xs = [.str b] ∧ (b.length == 0) = false ∧ a.length + 2 ≤ sizeLine ∧ rNewStrs (Txt.split a b) H Q
def rStrPart : V → List V → Hp → VK → Prop := fun x xs H Q => ∃ a b, x = .str a ∧ xs = [.str b] ∧ (b.length == 0) = false ∧ a.length ≤ sizeLine ∧
    ∀ p, H p = none → Q (.ref p) (L2.upd H p (.tup [.str (Txt.partition a b).1, .str (Txt.partition a b).2.1, .str (Txt.partition a b).2.2]))
def rStrJoin (K : PySem.W.Frag) : V → List V → Hp → VK → Prop := fun x xs H Q => ∃ a p, ∃ ys : List Str, x = .str a ∧ xs = [.ref p] ∧ (SqL K H p (ys.map V.str) ∨ SqT K H p (ys.map V.str)) ∧
    (ys.map (·.length)).sum + ys.length * a.length ≤ 16777216 ∧ Q (.str (Txt.join a ys)) H
def rStrRemP : V → List V → Hp → VK → Prop := fun x xs H Q => ∃ a b, x = .str a ∧ xs = [.str b] ∧ a.length ≤ sizeLine ∧ Q (.str (Txt.removeprefix a b)) H
def rIntStr : List V → Hp → VK → Prop := fun xs H Q => ∃ a n, xs = [.str a] ∧ PySem.intText? a = some n ∧ a.length ≤ 640 ∧ Q (.int n) H
section
variable {X : Cx}
theorem mtSplit : MtR X "str.split" rStrSplit := mt_split
theorem mtPart : MtR X "str.partition" rStrPart := mt_partition
theorem mtJoin : MtR X "str.join" (rStrJoin X.K) := mt_join
theorem mtRemP : MtR X "str.removeprefix" rStrRemP := mt_removeprefix
theorem crIntStr : CallR X (.type "int") rIntStr := call_int_str
end
/-! ### the parts of a def's words -/
def xE : Expr := .Constant .none 0 ⟨0, 0, 0, 0⟩
def xS : Stmt := .Pass ⟨0, 0, 0, 0⟩
def sBody (s : Stmt) (i : Nat) : Stmt := match s with
  | .FunctionDef (body := b) .. => b.getD i xS
  | .If (body := b) .. => b.getD i xS
  | .For (body := b) .. => b.getD i xS
  | _ => xS
def sVal (s : Stmt) : Expr := match s with
  | .Assign (value := v) .. => v
  | .Expr v _ => v
  | .Return (some v) _ => v
  | .If (test := t) .. => t
  | _ => xE
def eArg (e : Expr) (i : Nat) : Expr := match e with
  | .Call (args := a) .. => a.getD i xE
  | .List es _ => es.getD i xE
  | .Tuple es _ _ => es.getD i xE
  | .BoolOp (values := v) .. => v.getD i xE
  | .Compare (left := l) (comparators := c) .. => if i = 0 then l else c.getD (i - 1) xE
  | .BinOp l _ r _ => if i = 0 then l else r
  | .Subscript v s _ => if i = 0 then v else s
  | .UnaryOp _ v _ => v
  | _ => xE
def lwOf (e : Expr) : LW := match e with
  | .Lambda p b s pos => ⟨p, b, s, pos⟩
  | _ => ⟨⟨[], [], none, [], [], none, []⟩, xE, ⟨.function, [], false, false, []⟩, ⟨0, 0, 0, 0⟩⟩
theorem tab_m {T : Addr × Str} : T ∈ [T] := List.mem_singleton.mpr rfl
theorem tab_u {P : Addr} {q : Str} : ∀ p ∈ [((P, q) : Addr × Str)], p.1 = P → p.2 = q := fun p hp _ => by rw [List.mem_singleton.mp hp]
/-! ### what stays when a lambda is made -/
theorem Row.extN {K : PySem.W.Frag} {H H1 : Hp} {ρ : Rw} (h : Row K H ρ) (e : ExtN H H1) : Row K H1 ρ := by
  obtain ⟨i, s, t, q, k, b⟩ := h
  refine ⟨i, s, t, e _ _ q (fun ps z => nomatch z), fun H' f => ?_, b⟩
  have key := k (fun x => match H x with
    | some (.tbl ps) => some (.tbl ps)
    | _ => H' x) fun a o n ha => by
    show (match H a with | some (.tbl ps) => some (.tbl ps) | _ => H' a) = some o
    rw [ha]
    cases o with
    | tbl ps => rfl
    | _ => exact f a _ n (e a _ ha (fun ps z => nomatch z))
  rcases key with (key | ⟨o, key⟩) | key
  · refine .inl (.inl ?_)
    have key : (match H ρ.2.1 with | some (.tbl ps) => some (.tbl ps) | _ => H' ρ.2.1) = some (.lst (ρ.2.2.map V.int)) := key
    split at key
    · cases key
    · exact key
  · refine .inl (.inr ⟨o, ?_⟩)
    have key : (match H ρ.2.1 with | some (.tbl ps) => some (.tbl ps) | _ => H' ρ.2.1) = some (.frz o (.lst (ρ.2.2.map V.int))) := key
    split at key
    · cases key
    · exact key
  · exact .inr key
theorem TrT.extN {K : PySem.W.Frag} {H H' : Hp} (e : ExtN H H') : TrT K H H' := fun a xs h => by
  rcases h with (h | ⟨o, h⟩) | h
  · exact .inl (.inl (e a _ h fun _ z => nomatch z))
  · exact .inl (.inr ⟨o, e a _ h fun _ z => nomatch z⟩)
  · exact .inr h
theorem tabs_one {P : Addr} {q : Str} {H : Hp} (h : H P = some (.tbl #[])) : Tabs [(P, q)] H := fun p hp => by
  rw [List.mem_singleton.mp hp]
  exact TabS.nil h
theorem tabs_keep {T : List (Addr × Str)} {H H' : Hp} {r : Addr} {xs : List V} (t : Tabs T H) (hr : H r = some (.lst xs)) (e : Fr r H H') : Tabs T H' := fun p hp => by
  obtain ⟨ps, h1, h2, h3⟩ := t p hp
  have ne : ∀ {b : Addr} {o : HO}, H b = some o → (∀ xs, o ≠ .lst xs) → b ≠ r := fun {b o} hb n z => by
    rw [z, hr] at hb
    exact n _ (Option.some.inj hb).symm
  refine ⟨ps, e _ _ (ne h1 fun _ z => nomatch z) h1, h2, fun pos cv hc => ?_⟩
  obtain ⟨c, e1, e2⟩ := h3 pos cv hc
  exact ⟨c, e1, e _ _ (ne e2 fun xs z => by unfold CodeO at z; cases z) e2⟩
theorem g_callLam {q : Str} {cells : List (Str × Addr)} {LL : List (LW × Option Int × (XK → TE))} {TT : (Hp → Prop) → (XK → Hp → VK → Prop) → Hp → VK → Prop} {te : TE} {σ : L2.St} {H : Hp} {Q : VK} (h : te σ H fun v H1 =>
  ∃ (j : Nat) (f : Addr) (L : LW) (n : Option Int) (t : XK → TE), LL[j]? = some (L, n, t) ∧ v = .ref f ∧ LamAt H1 f q L (cloFrom cells L.scope.names []) n ∧
    TT (fun H' => LamAt H' f q L (cloFrom cells L.scope.names []) n) (fun E H' Q' => t E σ H' Q') H1 Q) : tCallLam q cells LL TT te σ H Q := h
end
section
open He
def psB (ps : List (PySem.W.Frag → Bool)) (K : PySem.W.Frag) : Bool := ps.all fun p => p K
theorem psB_at {ps : List (PySem.W.Frag → Bool)} {K : PySem.W.Frag} (h : psB ps K = true) {i : Nat} {p : PySem.W.Frag → Bool} (hp : ps[i]? = some p) : p K = true := List.all_eq_true.mp h p (List.mem_of_getElem? hp)
def obsLT (as : List Addr) (fa : List Fa) (fn : List DefD) (ts : List Tab) (tf : List Defn) (ps : List (PySem.W.Frag → Bool)) (g : Addr → Option Obj) : He.AlX := (obsT fa fn ts (frT g as), psB ps (frT g as) && tabsB g tf (frT g as))
theorem saysLT_of {as : List Addr} {fa : List Fa} {fn : List DefD} {ts : List Tab} {tf : List Defn} {ps : List (PySem.W.Frag → Bool)} {w : World} {h : Heap} (e : obsLT as fa fn ts tf ps h.get? = (valT fn ts w, true)) : He.SaysX fa fn ts tf (psB ps) w h (frT h.get? as) := by
  have e1 : obsT fa fn ts (frT h.get? as) = valT fn ts w := congrArg (fun z : AlX => z.1) e
  have e2 : (psB ps (frT h.get? as) && tabsB h.get? tf (frT h.get? as)) = true := congrArg (fun z : AlX => z.2) e
  obtain ⟨h1, h2⟩ := ba e2
  have key : ∀ p ∈ tf, PySem.W.codeHdIn (frT h.get? as) (cT (frT h.get? as) p).1 (cT (frT h.get? as) p).2 = true ∧ ∃ o, h.get? (cT (frT h.get? as) p).2 = some o ∧ emptyTab o = true := fun p hp => by
    obtain ⟨h3, h4⟩ := ba (List.all_eq_true.mp h2 p hp)
    refine ⟨h3, ?_⟩
    cases q : h.get? (cT (frT h.get? as) p).2 with
    | none =>
      rw [q] at h4
      cases h4
    | some o =>
      rw [q] at h4
      exact ⟨o, rfl, h4⟩
  exact ⟨e1, h1, fun p hp => (key p hp).1, fun p hp => by
    obtain ⟨_, o, q, z⟩ := key p hp
    exact frT_none q z, fun p hp => by
    obtain ⟨_, o, q, z⟩ := key p hp
    rw [q, emptyTab_eq z]⟩
def hookLT (as : List Addr) (fa : List Fa) (fn : List DefD) (ts : List Tab) (tf : List Defn) (ps : List (PySem.W.Frag → Bool)) : PySem.W.Hook where
  α := He.AlX
  obs := fun s => obsLT as fa fn ts tf ps s.heap.get?
  val := fun w => (valT fn ts w, true)
  says := fun w h => ∃ K : PySem.W.Frag, K.In h ∧ He.SaysX fa fn ts tf (psB ps) w h K
  of := fun _ _ e => ⟨_, frT_in, saysLT_of e⟩
  keeps := fun _ _ _ ⟨K, hK, c⟩ k => ⟨K, PySem.W.Frag.In.keeps hK k, ⟨c.t, c.more, c.hd, c.out, fun p hp => k _ _ (c.empty p hp)⟩⟩
theorem obsLT_eq {as : List Addr} {fa : List Fa} {fn : List DefD} {ts : List Tab} {tf : List Defn} {ps : List (PySem.W.Frag → Bool)} {g : Addr → Option Obj} {s : Shared} (h : ∀ a, g a = s.heap.get? a) : obsLT as fa fn ts tf ps g = (hookLT as fa fn ts tf ps).obs s := by
  have e : g = s.heap.get? := funext h
  rw [e] <;> rfl
def tJoin (ts : List TE) : TE := fun σ H Q => tJs ts Str.empty σ H fun out H1 => Q (.str out) H1
end
section
open TL
def rLenStr : List V → Hp → VK → Prop := fun xs H Q => ∃ z : Str, xs = [.str z] ∧ z.length ≤ sizeLine ∧ Q (.int z.length) H
def rStrInt : List V → Hp → VK → Prop := fun xs H Q => ∃ i : Int, xs = [.int i] ∧ i.natAbs.log2 < 1920 ∧ Q (.str (toString i)) H
def rAddStr : R2 := fun x y H Q => ∃ i j : Str, x = .str i ∧ y = .str j ∧ i.length + j.length ≤ sizeLine ∧ Q (.str (i ++ j)) H
def rInSign : R2 := fun x y H Q => ∃ (c : Nat) (z : Str), x = .str ⟨#[c]⟩ ∧ y = .str z ∧ Q (.bl (decide (c ∈ z.cps.toList))) H
section
variable {X : Cx}
theorem crLenStr : CallR X (.builtin "len") rLenStr := call_len_str
theorem crStrInt : CallR X (.type "str") rStrInt := call_str_int
theorem opAddStr : OpR X (binaryOp .Add) rAddStr := op_add_str
theorem opInSign : OpR X (compareOp .In) rInSign := op_in_sign
end
section
variable {K : PySem.W.Frag} {H : Hp} {Q : VK} {g : TG} {tt : TT} {te : TE} {vs : List Nat} {σ : St}
def tLcS (x : V) (g : TG) (tt : TT) (te : TE) (vs : List Nat) : TE := tLc (iStr fun _ H1 R => R x H1) g tt te vs
theorem g_lcStr {tl : TE} (h : tl σ H fun x H1 => tLcS x g tt te vs σ H1 Q) : tLc (iStr tl) g tt te vs σ H Q := h
theorem gave_at {α : Type} {ds : List α} {i : Nat} {d : α} (h : ds[i]? = some d) : ∃ r, ds.drop i = d :: r := by
  obtain ⟨l, e⟩ := List.getElem?_eq_some_iff.mp h
  exact ⟨_, by rw [List.drop_eq_getElem_cons l, e]⟩
/-- a comprehension over a text's signs -/
theorem g_lcS {z : Str} (hz : z.cps.toList.length ≤ 100000) (f : Nat → Bool) (v : Nat → V)
    (step : ∀ d x H', Ex H H' → x = V.str ⟨#[d]⟩ → LcT g tt te vs σ f v x d H')
    (last : ∀ D H', H D = none → Ex H H' → H' D = some (.lst ((z.cps.toList.filter f).map v)) → Q (.ref D) H') : tLcS (.str z) g tt te vs σ H Q := by
  refine ⟨z, rfl, fun D hD => lc_it (walk_str (z := z)) (LcW H D f v z.cps.toList) ⟨hD, Evl.Ex.new hD, upd_same⟩ (fun _ _ _ _ => trivial) ?_ ?_⟩
  · intro i x H1 H' hi p y
    obtain ⟨e, c, hc, ex⟩ := y
    subst e
    have hc' : z.cps.toList[i]? = some c := by
      rw [Array.getElem?_toList]
      exact hc
    obtain ⟨r, hr⟩ := gave_at hc'
    exact lc_turn hz p hr (step c x H' p.2.1 ex)
  · intro H' p
    obtain ⟨p1, p2, p3⟩ := p
    rw [show z.cps.size = z.cps.toList.length from Array.length_toList.symm, gave_all] at p3
    exact last D H' p1 p2 p3
end
/-! ### integers as texts -/
def dig (c : Nat) : Bool := decide (48 ≤ c ∧ c ≤ 57)
def unM (l : List Nat) : List Nat := match l with
  | 45 :: r => r
  | l => l
def digOk (l : List Nat) : Bool := decide (1 ≤ l.length ∧ l.length ≤ 9) && l.all dig
def intL (l : List Nat) : Int := match l with
  | 45 :: r => -((NumText.digitsVal r : Nat) : Int)
  | l => ((NumText.digitsVal l : Nat) : Int)
def intOf (w : Str) : Option Int := if digOk (unM (tl w)) = true then (if (toString (intL (tl w)) : Str) = w then some (intL (tl w)) else none) else none
theorem tl_remP (w : Str) : tl (Txt.removeprefix w "-") = unM (tl w) := by
  have e : (("-" : Str).cps.toList) = [45] := by decide +kernel
  have el : ("-" : Str).length = 1 := by decide +kernel
  rw [StrLaws.removeprefix_eq, StrLaws.subAt_eq, e, el]
  have wl : w.length = (tl w).length := len_tl w
  have ew : w.cps.toList = tl w := rfl
  rw [ew, wl, List.drop_zero]
  cases h : tl w with
  | nil => rw [if_neg (by decide)]; rw [h]; rfl
  | cons c r =>
    by_cases hc : c = 45
    · subst hc
      rw [if_pos (by simp)]
      show List.take (List.length (45 :: r) - 1) r = r
      exact List.take_of_length_le (by simp)
    · rw [if_neg (by simp; exact hc), h]
      unfold unM
      split
      next r' h => injection h with h1 _; exact absurd h1 hc
      · rfl
theorem digOk_all {l : List Nat} (h : digOk l = true) : 1 ≤ l.length ∧ l.length ≤ 9 ∧ NumText.AllDigits l ∧ l ≠ [] := by
  unfold digOk at h
  rw [Bool.and_eq_true] at h
  have h1 := of_decide_eq_true h.1
  refine ⟨h1.1, h1.2, fun c hc => ?_, fun e => by rw [e] at h1; simp at h1⟩
  exact of_decide_eq_true (List.all_eq_true.mp h.2 c hc)
theorem intText_of {w : Str} (h : digOk (unM (tl w)) = true) : PySem.intText? w = some (intL (tl w)) := by
  obtain ⟨l1, l2, ha, hn⟩ := digOk_all h
  have ew : w.cps.toList = tl w := rfl
  have wl : w.length = (tl w).length := len_tl w
  cases e : tl w with
  | nil =>
    rw [e] at hn
    exact absurd rfl hn
  | cons c r =>
    by_cases hc : c = 45
    · subst hc
      rw [e] at ha hn l2
      rw [e] at wl
      exact intText_neg (by rw [ew, e]) ha hn (by rw [wl]; have : r.length ≤ 9 := l2; simp only [List.length_cons]; omega)
    · have eu : unM (tl w) = tl w := by
        rw [e]
        unfold unM
        split
        next r' h => injection h with h1 _; exact absurd h1 hc
        · rfl
      rw [eu] at ha hn l2
      have ei : intL (c :: r) = ((NumText.digitsVal (c :: r) : Nat) : Int) := by
        unfold intL
        split
        next r' h => injection h with h1 _; exact absurd h1 hc
        · rfl
      rw [ei, ← e]
      exact intText_digits (by rw [ew]; exact ha) (by rw [ew]; exact hn) (by rw [wl]; omega)
theorem joinL_len {c : Nat} : ∀ {ps : List (List Nat)}, ps.length ≤ (joinL [c] ps).length + 1 ∧ ∀ p ∈ ps, p.length ≤ (joinL [c] ps).length
  | [] => ⟨by simp, fun p h => by simp at h⟩
  | [p] => ⟨by simp, fun q h => by rw [List.mem_singleton.mp h]; exact Nat.le_refl _⟩
  | p :: q :: r => by
    have ih := joinL_len (c := c) (ps := q :: r)
    have e : joinL [c] (p :: q :: r) = p ++ ([c] ++ joinL [c] (q :: r)) := rfl
    rw [e]
    simp only [List.length_append, List.length_cons, List.length_nil] at ih ⊢
    refine ⟨by omega, fun z hz => ?_⟩
    rcases List.mem_cons.mp hz with h | h
    · rw [h]; omega
    · have := ih.2 z h
      omega
/-- the parts of a text: few, none longer -/
theorem split_small (x y : Str) {c : Nat} (ey : tl y = [c]) : (Txt.split x y).length ≤ x.length + 1 ∧ ∀ p ∈ Txt.split x y, p.length ≤ x.length := by
  have e : tl (Str.join y (Txt.split x y)) = tl x := congrArg tl (StrLaws.join_split x y)
  rw [tl_join, ey] at e
  have q := joinL_len (c := c) (ps := (Txt.split x y).map tl)
  rw [e, List.length_map] at q
  have lx := len_tl x
  refine ⟨by omega, fun p hp => ?_⟩
  have := q.2 (tl p) (List.mem_map.mpr ⟨p, hp, rfl⟩)
  rw [← len_tl p] at this
  omega
theorem fold_lt : ∀ (l : List Nat) (a : Nat), NumText.AllDigits l → l.foldl (fun acc c => acc * 10 + (c - 48)) a < (a + 1) * 10 ^ l.length
  | [], a, _ => by simp
  | c :: r, a, h => by
    have hc := h.head
    have q := fold_lt r (a * 10 + (c - 48)) h.tail
    rw [List.foldl_cons, List.length_cons, Nat.pow_succ]
    refine Nat.lt_of_lt_of_le q ?_
    rw [Nat.mul_comm (10 ^ r.length) 10, ← Nat.mul_assoc]
    exact Nat.mul_le_mul_right _ (by omega)
theorem intL_small {l : List Nat} (h : digOk (unM l) = true) : (intL l).natAbs < 10 ^ 9 := by
  obtain ⟨l1, l2, ha, hn⟩ := digOk_all h
  have key : ∀ m : List Nat, NumText.AllDigits m → m.length ≤ 9 → NumText.digitsVal m < 10 ^ 9 := fun m hm lm => by
    have q := fold_lt m 0 hm
    rw [Nat.zero_add, Nat.one_mul] at q
    exact Nat.lt_of_lt_of_le q (Nat.pow_le_pow_right (by decide) lm)
  by_cases c : ∃ r, l = 45 :: r
  · obtain ⟨r, rfl⟩ := c
    have := key r ha l2
    show (-((NumText.digitsVal r : Nat) : Int)).natAbs < _
    omega
  · have eu : unM l = l := by
      unfold unM
      split
      next r => exact absurd ⟨r, rfl⟩ c
      · rfl
    have el : intL l = ((NumText.digitsVal l : Nat) : Int) := by
      unfold intL
      split
      next r => exact absurd ⟨r, rfl⟩ c
      · rfl
    rw [eu] at ha l2
    have := key l ha l2
    rw [el]
    omega
theorem log_small {i : Int} (h : i.natAbs < 10 ^ 9) : i.natAbs.log2 < 1920 := by
  by_cases c : i.natAbs = 0
  · rw [c]
    decide
  · exact Nat.lt_of_lt_of_le ((Nat.log2_lt c).mpr (Nat.lt_of_lt_of_le h (by decide : 10 ^ 9 ≤ 2 ^ 30))) (by decide)
theorem tl_int_nat (n : Nat) : tl (toString (n : Int) : Str) = numL n := tl_num n
theorem tl_int_neg (n : Nat) (h : 0 < n) : tl (toString (-(n : Int)) : Str) = 45 :: numL n := by
  obtain ⟨m, rfl⟩ : ∃ m, n = m + 1 := ⟨n - 1, by omega⟩
  have e : toString (-((m + 1 : Nat) : Int)) = "-" ++ toString ((m + 1 : Nat) : Int) := rfl
  show (Str.ofString (toString (-((m + 1 : Nat) : Int)))).cps.toList = _
  rw [e, PyProof.Rows.signs_ofString, String.toList_append, List.map_append]
  have z : List.map Char.toNat (toString ((m + 1 : Nat) : Int)).toList = numL (m + 1) := by
    rw [← PyProof.Rows.signs_ofString]
    exact PySem.W.KIN.signs_num (m + 1)
  rw [z]
  rfl
/-- int(str(i)), i of at most nine digits -/
theorem intOf_str {i : Int} (h : i.natAbs < 10 ^ 9) : intOf (toString i : Str) = some i := by
  have key : digOk (unM (tl (toString i : Str))) = true ∧ intL (tl (toString i : Str)) = i := by
    by_cases c : 0 ≤ i
    · obtain ⟨n, rfl⟩ := Int.eq_ofNat_of_zero_le c
      rw [tl_int_nat]
      have hn : n < 10 ^ 9 := by omega
      have h45 : ∀ r, numL n ≠ 45 :: r := fun r e => by
        have z : 45 ∈ numL n := by rw [e]; exact List.mem_cons_self
        have := numL_digits n 45 z
        omega
      have eu : unM (numL n) = numL n := by
        unfold unM
        split
        next r e => exact absurd e (h45 r)
        · rfl
      have el : intL (numL n) = ((NumText.digitsVal (numL n) : Nat) : Int) := by
        unfold intL
        split
        next r e => exact absurd e (h45 r)
        · rfl
      rw [eu, el, numL_val]
      refine ⟨?_, rfl⟩
      unfold digOk
      rw [Bool.and_eq_true]
      refine ⟨decide_eq_true ⟨?_, numL_len (by decide) hn⟩, List.all_eq_true.mpr fun c hc => decide_eq_true (numL_digits n c hc)⟩
      exact List.length_pos_iff.mpr (numL_ne n)
    · obtain ⟨n, hn⟩ : ∃ n : Nat, i = -(n : Int) := ⟨i.natAbs, by omega⟩
      subst hn
      have hp : 0 < n := by omega
      have hn : n < 10 ^ 9 := by omega
      rw [tl_int_neg n hp]
      show digOk (numL n) = true ∧ -((NumText.digitsVal (numL n) : Nat) : Int) = _
      rw [numL_val]
      refine ⟨?_, rfl⟩
      unfold digOk
      rw [Bool.and_eq_true]
      refine ⟨decide_eq_true ⟨?_, numL_len (by decide) hn⟩, List.all_eq_true.mpr fun c hc => decide_eq_true (numL_digits n c hc)⟩
      exact List.length_pos_iff.mpr (numL_ne n)
  unfold intOf
  rw [if_pos key.1, key.2, if_pos rfl]

theorem filt_true {α : Type} (l : List α) : l.filter (fun _ => true) = l := List.filter_eq_self.mpr fun _ _ => rfl
/-! ### comprehensions whose items are told by a relation -/
section
variable {α : Type} {K : PySem.W.Frag} {H : Hp} {Q : VK} {g : TG} {tt : TT} {te : TE} {vs : List Nat} {σ : St} {a : Addr} {xs : List V} {ds : List α} {F G : Hp → V → α → Prop}
def LcVR (H : Hp) (D : Addr) (G : Hp → V → α → Prop) (f : α → Bool) (ds : List α) (i : Nat) (H' : Hp) : Prop := H D = none ∧ Ex H H' ∧ ∃ acc, H' D = some (.lst acc) ∧ Paired (G H') acc ((ds.take i).filter f)
def LcTR (g : TG) (tt : TT) (te : TE) (vs : List Nat) (σ : St) (G : Hp → V → α → Prop) (f : α → Bool) (x : V) (d : α) (H' : Hp) : Prop :=
  ∀ (R : Hp → Prop) (S : VK), (f d = false → ∀ H3, Ex H' H3 → R H3) → (f d = true → ∀ y H3, Ex H' H3 → G H3 y d → S y H3) →
    g x (wipe σ vs) H' fun σ2 H2 => wipe σ2 vs = wipe σ vs ∧ tt σ2 H2 fun b H3 => if b = true then te σ2 H3 S else R H3
theorem take_filt {f : α → Bool} {i : Nat} {d : α} (h : ds[i]? = some d) : (ds.take (i + 1)).filter f = (ds.take i).filter f ++ (if f d = true then [d] else []) := by
  obtain ⟨l, e⟩ := List.getElem?_eq_some_iff.mp h
  rw [List.take_succ, h, List.filter_append]
  show _ ++ List.filter f [d] = _
  rw [List.filter_cons, List.filter_nil]
theorem lcR_turn {D : Addr} {f : α → Bool} {i : Nat} {x : V} {d : α} {H' : Hp} (hz : ds.length ≤ 100000) (hG : ∀ H1 H2 y d, TrT K H1 H2 → G H1 y d → G H2 y d) (w : LcVR H D G f ds i H') (e : ds[i]? = some d) (t : LcTR g tt te vs σ G f x d H') :
    g x (wipe σ vs) H' fun σ2 H2 => wipe σ2 vs = wipe σ vs ∧ tt σ2 H2 fun b H3 =>
      if b = true then te σ2 H3 fun y H4 => ∃ acc, H4 D = some (.lst acc) ∧ acc.length < sizeLine ∧ LcVR H D G f ds (i + 1) (L2.upd H4 D (.lst (acc ++ [y]))) else LcVR H D G f ds (i + 1) H3 := by
  obtain ⟨w1, w2, acc, w3, w4⟩ := w
  have ll : acc.length ≤ 100000 := by
    rw [Paired.length w4]
    exact Nat.le_trans (List.length_filter_le _ _) (Nat.le_trans (List.length_take_le _ _) (by
      have := (List.getElem?_eq_some_iff.mp e).1
      omega))
  refine t _ _ (fun hf H3 e3 => ⟨w1, w2.trans e3, acc, e3 _ _ w3, ?_⟩) (fun hf y H3 e3 gy => ⟨acc, e3 _ _ w3, Nat.lt_of_le_of_lt ll (by decide), w1, Evl.Ex.mut (w2.trans e3) w1, _, upd_same, ?_⟩)
  · rw [take_filt e, hf, if_neg (by decide), List.append_nil]
    exact L2.Paired.mapP w4 fun _ _ q => hG _ _ _ _ (TrT.of e3) q
  · rw [take_filt e, hf, if_pos rfl]
    have u : TrT K H3 (L2.upd H3 D (.lst (acc ++ [y]))) := TrT.upd (e3 _ _ w3)
    exact pd_app (L2.Paired.mapP w4 fun _ _ q => hG _ _ _ _ u (hG _ _ _ _ (TrT.of e3) q)) (.cons (hG _ _ _ _ u gy) .nil)
theorem g_lcTR (hx : SqT K H a xs) (hp : Paired (F H) xs ds) (hz : ds.length ≤ 100000) (f : α → Bool) (mono : ∀ H' x d, Ex H H' → F H x d → F H' x d) (hG : ∀ H1 H2 y d, TrT K H1 H2 → G H1 y d → G H2 y d)
    (step : ∀ d x H', Ex H H' → F H' x d → LcTR g tt te vs σ G f x d H')
    (last : ∀ D H' ys, H D = none → Ex H H' → H' D = some (.lst ys) → Paired (G H') ys (ds.filter f) → Q (.ref D) H') : tLcT K (.ref a) g tt te vs σ H Q := by
  refine ⟨a, rfl, ⟨xs, hx⟩, fun D hD => lc_tup (K := K) (xs := xs) (LcVR H D G f ds) ⟨hD, Evl.Ex.new hD, [], upd_same, .nil⟩ (fun i H' _ p => Evl.ex_t p.2.1 hx) ?_ ?_⟩
  · intro i x H' hi p
    obtain ⟨d, hd, fd⟩ := pd_get hp hi
    exact lcR_turn hz hG p hd (step d x H' p.2.1 (mono _ _ _ p.2.1 fd))
  · rintro H' ⟨p1, p2, acc, p3, p4⟩
    rw [Paired.length hp, List.take_length] at p4
    exact last D H' acc p1 p2 p3 p4
theorem g_lcLR (hx : SqL K H a xs) (hp : Paired (F H) xs ds) (hz : ds.length ≤ 100000) (f : α → Bool) (mono : ∀ H' x d, Ex H H' → F H x d → F H' x d) (hG : ∀ H1 H2 y d, TrT K H1 H2 → G H1 y d → G H2 y d)
    (step : ∀ d x H', Ex H H' → F H' x d → LcTR g tt te vs σ G f x d H')
    (last : ∀ D H' ys, H D = none → Ex H H' → H' D = some (.lst ys) → Paired (G H') ys (ds.filter f) → Q (.ref D) H') : tLcL K (.ref a) g tt te vs σ H Q := by
  refine ⟨a, rfl, ⟨xs, hx⟩, fun D hD => lc_list (K := K) (xs := xs) (LcVR H D G f ds) ⟨hD, Evl.Ex.new hD, [], upd_same, .nil⟩ (fun i H' _ p => Evl.ex_l p.2.1 hx) ?_ ?_⟩
  · intro i x H' hi p
    obtain ⟨d, hd, fd⟩ := pd_get hp hi
    exact lcR_turn hz hG p hd (step d x H' p.2.1 (mono _ _ _ p.2.1 fd))
  · rintro H' ⟨p1, p2, acc, p3, p4⟩
    rw [Paired.length hp, List.take_length] at p4
    exact last D H' acc p1 p2 p3 p4
theorem g_m1 {to : TE} {r : V → List V → Hp → VK → Prop} (h : to σ H fun x H1 => (∃ z, x = .str z) ∧ te σ H1 fun y H2 => r x [y] H2 Q) : tM1 r to te σ H Q := h
theorem g_isS {z : Str} {A : Prop} (h : A) : (∃ y, V.str z = V.str y) ∧ A := ⟨⟨z, rfl⟩, h⟩
theorem g_fmtS {z : Str} {A B : Prop} (l : z.length ≤ sizeLine) (h : Q (.str z) H) : (∃ y : Str, V.str z = .str y ∧ y.length ≤ sizeLine ∧ Q (.str y) H) ∨ B := .inl ⟨z, rfl, l, h⟩
theorem g_fmtI {i : Int} {A : Prop} (l : i.natAbs.log2 < 1920) (h : Q (.str (toString i)) H) : A ∨ ∃ j : Int, V.int i = .int j ∧ j.natAbs.log2 < 1920 ∧ Q (.str (toString j)) H := .inr ⟨i, rfl, l, h⟩
end

section
variable {σ : St} {H : Hp} {Q : VK} {te t : TE} {ts : List TE} {acc z : Str} {R : Str → Hp → Prop}
theorem g_fmt (h : te σ H fun x H1 => (∃ y : Str, x = .str y ∧ y.length ≤ sizeLine ∧ Q (.str y) H1) ∨ ∃ i : Int, x = .int i ∧ i.natAbs.log2 < 1920 ∧ Q (.str (toString i)) H1) : tFmt te σ H Q := h
theorem g_js (h : t σ H fun x H1 => ∃ y : Str, x = .str y ∧ (acc ++ y).length ≤ sizeLine ∧ tJs ts (acc ++ y) σ H1 R) : tJs (t :: ts) acc σ H R := h
theorem g_jsN (h : R acc H) : tJs [] acc σ H R := h
theorem g_join (h : tJs ts Str.empty σ H fun out H1 => Q (.str out) H1) : tJoin ts σ H Q := h
theorem g_jsS (l : (acc ++ z).length ≤ sizeLine) (h : tJs ts (acc ++ z) σ H R) : ∃ y : Str, V.str z = .str y ∧ (acc ++ y).length ≤ sizeLine ∧ tJs ts (acc ++ y) σ H R := ⟨z, rfl, l, h⟩
end
theorem len_app (a b : Str) : (a ++ b).length = a.length + b.length := by
  rw [len_tl, tl_append, List.length_append, ← len_tl a, ← len_tl b]
theorem empty_app (a : Str) : Str.empty ++ a = a := ext_tl (by rw [tl_append]; rfl)
theorem str_len {i : Int} (h : i.natAbs < 10 ^ 9) : (toString i : Str).length ≤ 10 := by
  have q := intOf_str h
  unfold intOf at q
  by_cases c : digOk (unM (tl (toString i : Str))) = true
  · have l9 := (digOk_all c).2.1
    rw [len_tl]
    have : (tl (toString i : Str)).length ≤ (unM (tl (toString i : Str))).length + 1 := by
      unfold unM
      split
      next r e => rw [e]; simp
      · omega
    omega
  · rw [if_neg c] at q
    cases q
/-- the signs of an integer's text -/
theorem str_free {i : Int} {c : Nat} (h : i.natAbs < 10 ^ 9) (n1 : c ≠ 45) (n2 : c < 48 ∨ 57 < c) : c ∉ tl (toString i : Str) := by
  by_cases p : 0 ≤ i
  · obtain ⟨n, rfl⟩ := Int.eq_ofNat_of_zero_le p
    rw [tl_int_nat]
    exact numL_free n2
  · obtain ⟨n, hn⟩ : ∃ n : Nat, i = -(n : Int) := ⟨i.natAbs, by omega⟩
    subst hn
    rw [tl_int_neg n (by omega)]
    intro m
    rcases List.mem_cons.mp m with e | e
    · exact n1 e
    · exact numL_free n2 e
end
section
variable {prog : Program} {w : World} {A : Around} {E : Value → Shared → Prop} {s : Shared}
theorem slicePartN {v : Value} {Q : Option Int → Shared → Prop} (p : IsPart v none) (h : Q none s) : wpAny (model prog w) A (Builtin.Slice.slicePartIndex v) Q E s := HT.slicePart_ p h
theorem adjust_rev (n : Nat) : Builtin.Slice.sliceAdjust none none (-1) (n : Int) = ((n : Int) - 1, -1) := by
  unfold Builtin.Slice.sliceAdjust
  rfl
theorem places_rev (n : Nat) : Builtin.Slice.slicePlaces ((n : Int) - 1) (-1) (-1) = n := by
  unfold Builtin.Slice.slicePlaces
  have h1 : ¬ ((-1 : Int) > 0) := by omega
  simp only [h1, if_false]
  split
  · show (((n : Int) - 1 - -1 - 1) / (- -1) + 1).toNat = n
    rw [show (- -1 : Int) = 1 from rfl, Int.ediv_one]
    omega
  · omega
theorem sliceApplied_rev {sl : Addr} {vl vu vs : Value} {n : Nat} {Q : Int × Int × Nat → Shared → Prop} (hs : s.heap.IsSliceOf sl vl vu vs) (pl : IsPart vl none) (pu : IsPart vu none) (ps : IsPart vs (some (-1)))
    (h : Q ((n : Int) - 1, -1, n) s) : wpAny (model prog w) A (Builtin.Slice.sliceApplied (.ref sl) (pure (n : Int))) Q E s := by
  obtain ⟨os, hos, hcs, hds⟩ := id hs
  unfold Builtin.Slice.sliceApplied Builtin.Slice.sliceFields
  refine wpAny_bind (wpAny_bind (wpAny_field hos hds (x := vl) rfl (wpAny_bind (wpAny_field hos hds (x := vu) rfl (wpAny_bind (wpAny_field hos hds (x := vs) rfl (wpAny_pure ?_)))))))
  refine wpAny_bind (HT.slicePart_ ps ?_)
  show wpAny _ _ (if ((-1 : Int) == 0) = true then _ else _) _ _ s
  rw [if_neg (by decide)]
  refine wpAny_bind (slicePartN pl (wpAny_bind (slicePartN pu (wpAny_bind (wpAny_pure ?_)))))
  show wpAny _ _ (match Builtin.Slice.sliceAdjust none none (-1) (n : Int) with | (lo, hi) => pure (lo, (-1 : Int), Builtin.Slice.slicePlaces lo hi (-1))) _ _ s
  rw [adjust_rev n]
  show wpAny _ _ (pure ((n : Int) - 1, (-1 : Int), Builtin.Slice.slicePlaces ((n : Int) - 1) (-1) (-1))) _ _ s
  rw [places_rev]
  exact wpAny_pure h
theorem pick_rev (xs : Array Value) : ((List.range xs.size).filterMap fun (m : Nat) => xs[((xs.size : Int) - 1 + (m : Int) * -1).toNat]?).toArray = xs.toList.reverse.toArray := by
  have e : ((List.range xs.size).filterMap fun (m : Nat) => xs[((xs.size : Int) - 1 + (m : Int) * -1).toNat]?) = ((List.range xs.size).map fun k => xs.size - 1 - k).filterMap (xs[·]?) := by
    rw [List.filterMap_map]
    have key : ∀ (l : List Nat), (∀ m ∈ l, m < xs.size) → (l.filterMap fun (m : Nat) => xs[((xs.size : Int) - 1 + (m : Int) * -1).toNat]?) = l.filterMap ((fun x => xs[x]?) ∘ fun k => xs.size - 1 - k) := by
      intro l
      induction l with
      | nil => intro _; rfl
      | cons a r ih =>
        intro h
        have h1 := h a List.mem_cons_self
        have e1 : ((xs.size : Int) - 1 + (a : Int) * -1).toNat = xs.size - 1 - a := by omega
        rw [List.filterMap_cons, List.filterMap_cons, e1, ih fun m hm => h m (List.mem_cons_of_mem _ hm)]
        rfl
    exact key _ fun m hm => List.mem_range.mp hm
  rw [e, PySem.W.krv_range, List.filterMap_reverse, PySem.W.krv_all]
theorem getItem_tuple_rev {t sl : Addr} {items : Array Value} {vl vu vs : Value} {Q : Value → Shared → Prop} (ht : IsTup s.heap t items) (hs : s.heap.IsSliceOf sl vl vu vs) (pl : IsPart vl none) (pu : IsPart vu none) (ps : IsPart vs (some (-1)))
    (h : Q (.ref s.heap.objs.size) { s with heap := s.heap.push { cls := .type "tuple", data := .seq items.toList.reverse.toArray } })
    (hsz : items.size ≤ sizeLine) : wpAny (model prog w) A (getItem (.ref t) (.ref sl)) Q E s := by
  have htake : sizeOk (.seq items.toList.reverse.toArray) := by
    show items.toList.reverse.toArray.size ≤ sizeLine
    rw [List.size_toArray, List.length_reverse, Array.length_toList]
    exact hsz
  obtain ⟨os, hos, hcs, hds⟩ := id hs
  have hTs : s.TypeIs (.ref sl) "slice" := ⟨os, hos, hcs⟩
  unfold getItem
  try with_reducible refine wpAny_holding ?_
  first | refine wpAny_bind (wpAny_pure ?_) | skip
  refine wpAny_bind (wpAny_sequenceKey ht.typeIs (by decide) ?_)
  refine wpAny_bind (wpAny_callSpecial?_slot (name := Str.ofString "__getitem__") ht.typeIs PyProof.Rows.slot_tuple_getitem
    (wpAny_call_entry PyProof.Rows.slot_tuple_getitem ht.typeIs PyProof.Rows.entry_tuple_getitem ?_ (PyProof.Rows.args_tuple_getitem _ _)))
  show wpAny _ _ (Builtin.Tuple.tupleItemsOf (.ref t) >>= _) _ _ s
  refine wpAny_bind (tupleItemsOf_ ht ?_)
  refine wpAny_bind (wpAny_typeOf hTs ?_)
  rw [if_pos (by decide)]
  refine wpAny_bind (sliceApplied_rev hs pl pu ps ?_)
  show wpAny _ _ (if (((items.size : Int) - 1) == 0 && (-1 : Int) == 1 && items.size == items.size) = true then _ else _) _ _ s
  rw [if_neg (by rw [show ((-1 : Int) == 1) = false from rfl, Bool.and_false, Bool.false_and]; exact Bool.false_ne_true), pick_rev]
  first
    | exact wpAny_bind (m := Builtin.Tuple.tupleExact _) (wpAny_newObj_type (wpAny_pure ⟨_, rfl, wpAny_pure h⟩) htake)
    | exact wpAny_bind (m := Builtin.Tuple.tupleExact _) (wpAny_newObj_type (wpAny_bind (wpAny_pure (wpAny_pure ⟨_, rfl, wpAny_pure h⟩))) htake)
    | exact wpAny_bind (wpAny_bind (m := Builtin.Tuple.tupleExact _) (wpAny_newObj_type (wpAny_pure (wpAny_pure ⟨_, rfl, wpAny_pure h⟩)) htake))
    | exact wpAny_bind (wpAny_bind (m := Builtin.Tuple.tupleExact _) (wpAny_newObj_type (wpAny_pure ⟨_, rfl, wpAny_pure h⟩) htake))
end
/-- t[::-1] -/
def tRevT (K : PySem.W.Frag) (te : TE) : TE := fun σ H Q => te σ H fun x H1 => ∃ a xs, x = .ref a ∧ SqT K H1 a xs ∧ ∀ p, H1 p = none → Q (.ref p) (L2.upd H1 p (.tup xs.reverse))
theorem pe_revT {X : Cx} {e : Expr} {te : TE} {k : Nat} {p1 p2 p3 pos : Pos} (he : PE X e te) : PE X (.Subscript e (.Slice none none (some (.UnaryOp .USub (.Constant (.int 1) k p1) p2)) p3) pos) (tRevT X.K te) := by
  refine ⟨fun pins s σ H Q I h => ?_⟩
  refine Subscript_ (thn (he.run pins s σ H _ I h) fun v s1 ⟨x, H1, I1, r1, q1⟩ => ?_)
  obtain ⟨a, xs, ex, hx, q⟩ := q1
  subst ex
  cases r1
  have hst : PO X (some (.UnaryOp .USub (.Constant (.int 1) k p1) p2)) (tPart (tUn (rU fun i => .int (-i)) (tC (.int 1)))) := po_some (pe_un un_neg pe_int)
  refine wpAny_Slice (thn (po_none.run pins s1 σ H1 (fun o H2 => o = none ∧ H2 = H1) I1 ⟨rfl, rfl⟩) fun vl s2 ⟨l, H2, I2, pl, el, e2⟩ => ?_)
  subst el e2
  refine thn (po_none.run pins s2 σ H2 (fun o H3 => o = none ∧ H3 = H2) I2 ⟨rfl, rfl⟩) fun vu s3 ⟨u, H3, I3, pu, eu, e3⟩ => ?_
  subst eu e3
  refine thn (hst.run pins s3 σ H3 (fun o H4 => o = some (-1) ∧ H4 = H3) I3 ⟨1, rfl, -1, rfl, rfl, rfl⟩) fun vs s4 ⟨o, H4, I4, ps, eo, e4⟩ => ?_
  subst eo e4
  have I5 : Inv X pins σ H4 { s4 with heap := s4.heap.push { cls := .type "slice", data := .fields #[vl, vu, vs] } } := I4.kept (t' := s4.toks) fun b ob q => Heap.get?_push_of_some _ q
  obtain ⟨its, r, ht, hz⟩ := I5.tuple hx
  have hlen := r.length
  show wpAny (model X.prog X.w) X.A (subscriptTail e (.Slice none none (some (.UnaryOp .USub (.Constant (.int 1) k p1) p2)) p3) (.ref a) (.ref s4.heap.objs.size)) (EP X pins σ Q) X.xe { s4 with heap := s4.heap.push { cls := .type "slice", data := .fields #[vl, vu, vs] } }
  refine tail_any (ops := [.ref a, .ref s4.heap.objs.size]) ht.typeIs (PyProof.Rows.slot_tuple_getitem.lookup) ?_ (by with_unfolding_all rfl)
  refine getItem_tuple_rev ht (Heap.IsSliceOf.new _ vl vu vs) pl pu ps ?_ (by rw [List.size_toArray]; omega)
  refine ⟨.ref _, _, I5.laid (t' := s4.toks) (o := .tup xs.reverse) (fun b ob q => Heap.get?_push_of_some _ q) (Nat.le_refl _) ?_, rfl, q _ (I5.hok.fresh (Nat.le_refl _))⟩
  exact ⟨by rw [List.length_reverse]; exact hz, _, r.reverse, IsTup.new _ _⟩
theorem g_revT {K : PySem.W.Frag} {te : TE} {σ : St} {H : Hp} {Q : VK} (h : te σ H fun x H1 => ∃ a xs, x = .ref a ∧ SqT K H1 a xs ∧ ∀ p, H1 p = none → Q (.ref p) (L2.upd H1 p (.tup xs.reverse))) : tRevT K te σ H Q := h
/-! ### lists of lambdas -/
section
open LamX
/-- the lambdas, one behind the other -/
def LamsAt (q : Str) (cells : List (Str × Addr)) (H : Hp) (v : V) (L : LW × Option Int) : Prop := ∃ f, v = .ref f ∧ LamAt H f q L.1 (cloFrom cells L.1.scope.names []) L.2
theorem LamsAt.extN {q : Str} {cells : List (Str × Addr)} {H H' : Hp} {v : V} {L : LW × Option Int} (e : ExtN H H') (h : LamsAt q cells H v L) : LamsAt q cells H' v L := by
  obtain ⟨f, rfl, h⟩ := h
  exact ⟨f, rfl, h.extN e⟩
theorem LamsAt.ex {q : Str} {cells : List (Str × Addr)} {H H' : Hp} {v : V} {L : LW × Option Int} (e : Ex H H') (h : LamsAt q cells H v L) : LamsAt q cells H' v L := by
  obtain ⟨f, rfl, h⟩ := h
  exact ⟨f, rfl, h.ex e⟩
theorem LamsAt.fr {q : Str} {cells : List (Str × Addr)} {H H' : Hp} {r : Addr} {xs : List V} {v : V} {L : LW × Option Int} (hr : H r = some (.lst xs)) (e : Fr r H H') (h : LamsAt q cells H v L) : LamsAt q cells H' v L := by
  obtain ⟨f, rfl, h⟩ := h
  exact ⟨f, rfl, h.fr hr e⟩
/-- a list that is changed in its place -/
theorem LamsAt.upd {q : Str} {cells : List (Str × Addr)} {H : Hp} {l : Addr} {xs ys : List V} {v : V} {L : LW × Option Int} (hl : H l = some (.lst xs)) (h : LamsAt q cells H v L) : LamsAt q cells (L2.upd H l (.lst ys)) v L :=
  LamsAt.fr hl Fr.upd h
def EvLs (T : List (Addr × Str)) (q : Str) (cells : List (Str × Addr)) (ta : TA) (Ls : List (LW × Option Int)) : Prop :=
  ∀ σ H (R : List V → Hp → Prop), Tabs T H → (∀ fs H', ExtN H H' → Tabs T H' → Paired (LamsAt q cells H') fs Ls → R fs H') → ta σ H R
theorem evLs_nil {T : List (Addr × Str)} {q : Str} {cells : List (Str × Addr)} : EvLs T q cells tNil [] := fun σ H R t k => k [] H (ExtN.refl H) t .nil
theorem evLs_cons {T : List (Addr × Str)} {q : Str} {cells : List (Str × Addr)} {L : LW} {n : Option Int} {ta : TA} {Ls : List (LW × Option Int)} (h : EvLs T q cells ta Ls) :
    EvLs T q cells (tCons (tLamV T q L (cloFrom cells L.scope.names []) n) ta) ((L, n) :: Ls) := fun σ H R t k =>
  ⟨t, fun f H1 e1 t1 nf la => h σ H1 _ t1 fun fs H2 e2 t2 p => k _ _ (e1.trans e2) t2 (.cons ⟨f, rfl, la.extN e2⟩ p)⟩
theorem g_lams {T : List (Addr × Str)} {q : Str} {cells : List (Str × Addr)} {ta : TA} {Ls : List (LW × Option Int)} {σ : L2.St} {H : Hp} {Q : VK} (h : EvLs T q cells ta Ls) (t : Tabs T H) (few : Ls.length ≤ 1000)
    (k : ∀ l fs H', ExtN H H' → (∀ x o, H x = some o → (∀ ps, o ≠ .tbl ps) → l ≠ x) → Tabs T H' → H' l = some (.lst fs) → Paired (LamsAt q cells H') fs Ls → Q (.ref l) H') : tLst ta σ H Q :=
  h σ H _ t fun fs H1 e1 t1 p => g_newL (by rw [Paired.length p]; omega) fun l H2 n2 e2 h2 => k l fs H2 (e1.trans (ExtN.of e2)) (fun x o hx no z => by
    have := e1 _ _ hx no
    rw [← z, n2] at this
    cases this) (t1.ext e2) h2 (L2.Paired.mapP p fun _ _ q => q.ex e2)
end
/-! ### a comprehension over a range, its items told by a relation -/
section
variable {H : Hp} {Q : VK} {g : TG} {tt : TT} {te : TE} {vs : List Nat} {σ : L2.St} {K : PySem.W.Frag} {G : Hp → V → Int → Prop}
theorem g_lcRgR {n : Nat} (hz : n ≤ 100000) (hG : ∀ H1 H2 y d, TrT K H1 H2 → G H1 y d → G H2 y d)
    (step : ∀ (d : Int) H', 0 ≤ d → d < n → Ex H H' → LcTR g tt te vs σ G (fun _ => true) (.int d) d H')
    (last : ∀ D H' ys, H D = none → Ex H H' → H' D = some (.lst ys) → Paired (G H') ys (irange 0 n) → Q (.ref D) H') : tLc (iRng1 fun _ H2 R => R [.int (n : Int)] H2) g tt te vs σ H Q := by
  have big : ((100000 : Nat) : Int) < 2 ^ 62 := by decide
  refine ⟨(n : Int), rfl, by omega, by omega, fun D hD => ?_⟩
  rw [Int.toNat_natCast]
  refine lc_range (lo := 0) (n := n) (LcVR H D G (fun _ => true) (irange 0 n)) ⟨hD, Evl.Ex.new hD, [], upd_same, .nil⟩ ?_ ?_
  · intro i H' hi p
    have hd : (irange 0 n)[i]? = some (0 + (i : Int)) := by
      unfold irange
      rw [List.getElem?_map, List.getElem?_range hi]
      rfl
    exact lcR_turn (by rw [irange_len]; exact hz) hG p hd (by
      have q := step (0 + (i : Int)) H' (by omega) (by omega) p.2.1
      exact q)
  · rintro H' ⟨p1, p2, acc, p3, p4⟩
    rw [show (irange 0 n).take n = irange 0 n from List.take_of_length_le (by rw [irange_len]; exact Nat.le_refl _), filt_true] at p4
    exact last D H' acc p1 p2 p3 p4
end
def top (i : Nat) : Stmt := PySem.Challenge.pw_timeheld_k11_whole_refused_later.main.body.getD i (.Pass ⟨0, 0, 0, 0⟩)
abbrev s_offset_in_force : Stmt := top 13
theorem sc_offset_in_force : FnScope ["zone", "instant", "offset", "changes", "start", "after"] ["zone", "instant"] (defScope s_offset_in_force) := ⟨rfl, rfl, rfl, by decide +kernel, rfl, by decide +kernel, by decide +kernel⟩
abbrev s_instants_with : Stmt := top 14
theorem sc_instants_with : FnScope ["zone", "reading", "offset", "changes", "offsets", "_", "after", "hours"] ["zone", "reading"] (defScope s_instants_with) := ⟨rfl, rfl, rfl, by decide +kernel, rfl, by decide +kernel, by decide +kernel⟩
abbrev s_passes_at : Stmt := top 20
theorem sc_passes_at : FnScope ["library", "zone", "reading", "gap", "fold", "many"] ["library", "zone", "reading"] (defScope s_passes_at) := ⟨rfl, rfl, rfl, by decide +kernel, rfl, by decide +kernel, by decide +kernel⟩
abbrev s_is_between : Stmt := top 28
theorem sc_is_between : FnScope ["value", "low", "high"] ["value", "low", "high"] (defScope s_is_between) := ⟨rfl, rfl, rfl, by decide +kernel, rfl, by decide +kernel, by decide +kernel⟩
abbrev s_is_tuple_of : Stmt := top 29
theorem sc_is_tuple_of : FnScope ["many", "value"] ["many", "value"] (defScope s_is_tuple_of) := ⟨rfl, rfl, rfl, by decide +kernel, rfl, by decide +kernel, by decide +kernel⟩
abbrev s_is_instant : Stmt := top 30
theorem sc_is_instant : FnScope ["value"] ["value"] (defScope s_is_instant) := ⟨rfl, rfl, rfl, by decide +kernel, rfl, by decide +kernel, by decide +kernel⟩
abbrev s_is_reading : Stmt := top 31
theorem sc_is_reading : FnScope ["value"] ["value"] (defScope s_is_reading) := ⟨rfl, rfl, rfl, by decide +kernel, rfl, by decide +kernel, by decide +kernel⟩
abbrev s_is_duration : Stmt := top 32
theorem sc_is_duration : FnScope ["value"] ["value"] (defScope s_is_duration) := ⟨rfl, rfl, rfl, by decide +kernel, rfl, by decide +kernel, by decide +kernel⟩
abbrev s_is_zone : Stmt := top 40
theorem sc_is_zone : FnScope ["value", "offset", "changes"] ["value"] (defScope s_is_zone) := ⟨rfl, rfl, rfl, by decide +kernel, rfl, by decide +kernel, by decide +kernel⟩
abbrev s_are_changes_after : Stmt := top 41
theorem sc_are_changes_after : FnScope ["offset", "changes", "earliest", "change", "instant"] ["offset", "changes"] (defScope s_are_changes_after) := ⟨rfl, rfl, rfl, by decide +kernel, rfl, by decide +kernel, by decide +kernel⟩
abbrev s_is_change_after : Stmt := top 42
theorem sc_is_change_after : FnScope ["before", "earliest", "value", "instant", "offset"] ["before", "earliest", "value"] (defScope s_is_change_after) := ⟨rfl, rfl, rfl, by decide +kernel, rfl, by decide +kernel, by decide +kernel⟩
abbrev s_check_zone : Stmt := top 43
theorem sc_check_zone : FnScope ["value"] ["value"] (defScope s_check_zone) := ⟨rfl, rfl, rfl, by decide +kernel, rfl, by decide +kernel, by decide +kernel⟩
abbrev s_is_library : Stmt := top 49
theorem sc_is_library : FnScope ["value", "sums", "order", "gap", "fold"] ["value"] (defScope s_is_library) := ⟨rfl, rfl, rfl, by decide +kernel, rfl, by decide +kernel, by decide +kernel⟩
abbrev s_check_library : Stmt := top 51
theorem sc_check_library : FnScope ["value"] ["value"] (defScope s_check_library) := ⟨rfl, rfl, rfl, by decide +kernel, rfl, by decide +kernel, by decide +kernel⟩
abbrev s_is_time : Stmt := top 52
theorem sc_is_time : FnScope ["library", "zone", "value", "reading", "turn"] ["library", "zone", "value"] (defScope s_is_time) := ⟨rfl, rfl, rfl, by decide +kernel, rfl, by decide +kernel, by decide +kernel⟩
abbrev s_check_time : Stmt := top 53
theorem sc_check_time : FnScope ["library", "zone", "value"] ["library", "zone", "value"] (defScope s_check_time) := ⟨rfl, rfl, rfl, by decide +kernel, rfl, by decide +kernel, by decide +kernel⟩
abbrev s_to_instant : Stmt := top 54
theorem sc_to_instant : FnScope ["library", "zone", "time"] ["library", "zone", "time"] (defScope s_to_instant) := ⟨rfl, rfl, rfl, by decide +kernel, rfl, by decide +kernel, by decide +kernel⟩
abbrev s_is_rule : Stmt := top 100
theorem sc_is_rule : FnScope ["value"] ["value"] (defScope s_is_rule) := ⟨rfl, rfl, rfl, by decide +kernel, rfl, by decide +kernel, by decide +kernel⟩
abbrev s_check_rule : Stmt := top 101
theorem sc_check_rule : FnScope ["value"] ["value"] (defScope s_check_rule) := ⟨rfl, rfl, rfl, by decide +kernel, rfl, by decide +kernel, by decide +kernel⟩
abbrev s_shape : Stmt := top 102
theorem sc_shape : FnScope ["rule"] ["rule"] (defScope s_shape) := ⟨rfl, rfl, rfl, by decide +kernel, rfl, by decide +kernel, by decide +kernel⟩
abbrev s_holds_for : Stmt := top 103
theorem sc_holds_for : FnScope ["library", "zone", "rule", "arguments"] ["library", "zone", "rule", "arguments"] (defScope s_holds_for) := ⟨rfl, rfl, rfl, by decide +kernel, rfl, by decide +kernel, by decide +kernel⟩
abbrev s_are_arguments : Stmt := top 104
theorem sc_are_arguments : FnScope ["library", "zone", "words", "value", "word", "item"] ["library", "zone", "words", "value"] (defScope s_are_arguments) := ⟨rfl, rfl, rfl, by decide +kernel, rfl, by decide +kernel, by decide +kernel⟩
abbrev s_is_argument : Stmt := top 105
theorem sc_is_argument : FnScope ["library", "zone", "word", "value"] ["library", "zone", "word", "value"] (defScope s_is_argument) := ⟨rfl, rfl, rfl, by decide +kernel, rfl, by decide +kernel, by decide +kernel⟩
abbrev s_check_kind : Stmt := top 108
theorem sc_check_kind : FnScope ["value"] ["value"] (defScope s_check_kind) := ⟨rfl, rfl, rfl, by decide +kernel, rfl, by decide +kernel, by decide +kernel⟩
abbrev s_holds : Stmt := top 109
theorem sc_holds : FnScope ["library", "kind", "rule"] ["library", "kind", "rule"] (defScope s_holds) := ⟨rfl, rfl, rfl, by decide +kernel, rfl, by decide +kernel, by decide +kernel⟩
abbrev s_counterexample : Stmt := top 110
theorem sc_counterexample : FnScope ["library", "kind", "rule"] ["library", "kind", "rule"] (defScope s_counterexample) := ⟨rfl, rfl, rfl, by decide +kernel, rfl, by decide +kernel, by decide +kernel⟩
abbrev s_profile : Stmt := top 113
theorem sc_profile : FnScope ["library", "kind", "rule"] ["library", "kind"] (defScope s_profile) := ⟨rfl, rfl, rfl, by decide +kernel, rfl, by decide +kernel, by decide +kernel⟩
abbrev s_implies : Stmt := top 114
theorem sc_implies : FnScope ["kind", "one", "other"] ["kind", "one", "other"] (defScope s_implies) := ⟨rfl, rfl, rfl, by decide +kernel, rfl, by decide +kernel, by decide +kernel⟩
abbrev s_parting : Stmt := top 115
theorem sc_parting : FnScope ["kind", "one", "other", "library"] ["kind", "one", "other"] (defScope s_parting) := ⟨rfl, rfl, rfl, by decide +kernel, rfl, by decide +kernel, by decide +kernel⟩
abbrev s_libraries_with : Stmt := top 116
theorem sc_libraries_with : FnScope ["kind", "wanted", "library"] ["kind", "wanted"] (defScope s_libraries_with) := ⟨rfl, rfl, rfl, by decide +kernel, rfl, by decide +kernel, by decide +kernel⟩
abbrev s_most_rules : Stmt := top 118
theorem sc_most_rules : FnScope ["kind", "counts", "most", "library"] ["kind"] (defScope s_most_rules) := ⟨rfl, rfl, rfl, by decide +kernel, rfl, by decide +kernel, by decide +kernel⟩
abbrev s_check_duration : Stmt := top 120
theorem sc_check_duration : FnScope ["value"] ["value"] (defScope s_check_duration) := ⟨rfl, rfl, rfl, by decide +kernel, rfl, by decide +kernel, by decide +kernel⟩
abbrev s_add : Stmt := top 121
theorem sc_add : FnScope ["library", "zone", "time", "duration"] ["library", "zone", "time", "duration"] (defScope s_add) := ⟨rfl, rfl, rfl, by decide +kernel, rfl, by decide +kernel, by decide +kernel⟩
abbrev s_subtract : Stmt := top 122
theorem sc_subtract : FnScope ["library", "zone", "one", "other"] ["library", "zone", "one", "other"] (defScope s_subtract) := ⟨rfl, rfl, rfl, by decide +kernel, rfl, by decide +kernel, by decide +kernel⟩
abbrev s_compare : Stmt := top 123
theorem sc_compare : FnScope ["library", "zone", "one", "other"] ["library", "zone", "one", "other"] (defScope s_compare) := ⟨rfl, rfl, rfl, by decide +kernel, rfl, by decide +kernel, by decide +kernel⟩
abbrev s_law_taken : Stmt := top 125
theorem sc_law_taken : FnScope ["row", "many", "found", "cell"] ["row", "many"] (defScope s_law_taken) := ⟨rfl, rfl, rfl, by decide +kernel, rfl, by decide +kernel, by decide +kernel⟩
abbrev s_law_pick : Stmt := top 126
theorem sc_law_pick : FnScope ["row", "kinds"] ["row", "kinds"] (defScope s_law_pick) := ⟨rfl, rfl, rfl, by decide +kernel, rfl, by decide +kernel, by decide +kernel⟩
abbrev s_law_zone : Stmt := top 127
theorem sc_law_zone : FnScope ["row", "kind", "offset", "found", "at", "first", "many", "k", "step", "sign"] ["row", "kind"] (defScope s_law_zone) := ⟨rfl, rfl, rfl, by decide +kernel, rfl, by decide +kernel, by decide +kernel⟩
abbrev s_law_library : Stmt := top 128
theorem sc_law_library : FnScope ["row", "first", "second"] ["row"] (defScope s_law_library) := ⟨rfl, rfl, rfl, by decide +kernel, rfl, by decide +kernel, by decide +kernel⟩
abbrev s_law_offset : Stmt := top 129
theorem sc_law_offset : FnScope ["zone", "instant", "some", "at", "after"] ["zone", "instant"] (defScope s_law_offset) := ⟨rfl, rfl, rfl, by decide +kernel, rfl, by decide +kernel, by decide +kernel⟩
abbrev s_law_instants : Stmt := top 130
theorem sc_law_instants : FnScope ["zone", "reading", "each"] ["zone", "reading"] (defScope s_law_instants) := ⟨rfl, rfl, rfl, by decide +kernel, rfl, by decide +kernel, by decide +kernel⟩
abbrev s_law_times : Stmt := top 131
theorem sc_law_times : FnScope ["way", "zone", "reading", "many"] ["way", "zone", "reading"] (defScope s_law_times) := ⟨rfl, rfl, rfl, by decide +kernel, rfl, by decide +kernel, by decide +kernel⟩
abbrev s_law_rules : Stmt := top 132
theorem sc_law_rules : FnScope ["some"] [] (defScope s_law_rules) := ⟨rfl, rfl, rfl, by decide +kernel, rfl, by decide +kernel, by decide +kernel⟩
abbrev s_law_shape : Stmt := top 133
theorem sc_law_shape : FnScope ["rule"] ["rule"] (defScope s_law_shape) := ⟨rfl, rfl, rfl, by decide +kernel, rfl, by decide +kernel, by decide +kernel⟩
abbrev s_law_spot : Stmt := top 134
theorem sc_law_spot : FnScope ["row", "zone", "changes", "at", "after"] ["row", "zone"] (defScope s_law_spot) := ⟨rfl, rfl, rfl, by decide +kernel, rfl, by decide +kernel, by decide +kernel⟩
abbrev s_law_time : Stmt := top 135
theorem sc_law_time : FnScope ["row", "way", "zone", "spot", "step", "some"] ["row", "way", "zone"] (defScope s_law_time) := ⟨rfl, rfl, rfl, by decide +kernel, rfl, by decide +kernel, by decide +kernel⟩
abbrev s_law_hours : Stmt := top 136
theorem sc_law_hours : FnScope ["row"] ["row"] (defScope s_law_hours) := ⟨rfl, rfl, rfl, by decide +kernel, rfl, by decide +kernel, by decide +kernel⟩
abbrev s_law_arguments : Stmt := top 137
theorem sc_law_arguments : FnScope ["row", "way", "zone", "rule", "found", "first", "word"] ["row", "way", "zone", "rule"] (defScope s_law_arguments) := ⟨rfl, rfl, rfl, by decide +kernel, rfl, by decide +kernel, by decide +kernel⟩
abbrev s_law_wrong : Stmt := top 138
theorem sc_law_wrong : FnScope ["work", "e", "known", "words"] ["work"] (defScope s_law_wrong) := ⟨rfl, rfl, rfl, by decide +kernel, rfl, by decide +kernel, by decide +kernel⟩
abbrev s_law : Stmt := top 139
theorem sc_law : FnScope ["script", "row", "way", "zone", "t", "spot", "odd", "bad", "works", "rule", "some"] ["script"] (defScope s_law) := ⟨rfl, rfl, rfl, by decide +kernel, rfl, by decide +kernel, by decide +kernel⟩
structure Txt (w : World) (K : PySem.W.Frag) (mg : Str → Option Value) where
  f_offset_in_force : FA K mg "offset_in_force" s_offset_in_force ["zone", "instant"]
  f_instants_with : FA K mg "instants_with" s_instants_with ["zone", "reading"]
  f_passes_at : FA K mg "passes_at" s_passes_at ["library", "zone", "reading"]
  f_is_between : FA K mg "is_between" s_is_between ["value", "low", "high"]
  f_is_tuple_of : FA K mg "is_tuple_of" s_is_tuple_of ["many", "value"]
  f_is_instant : FA K mg "is_instant" s_is_instant ["value"]
  f_is_reading : FA K mg "is_reading" s_is_reading ["value"]
  f_is_duration : FA K mg "is_duration" s_is_duration ["value"]
  f_is_zone : FA K mg "is_zone" s_is_zone ["value"]
  f_are_changes_after : FA K mg "_are_changes_after" s_are_changes_after ["offset", "changes"]
  f_is_change_after : FA K mg "_is_change_after" s_is_change_after ["before", "earliest", "value"]
  f_check_zone : FA K mg "check_zone" s_check_zone ["value"]
  f_is_library : FA K mg "is_library" s_is_library ["value"]
  f_check_library : FA K mg "check_library" s_check_library ["value"]
  f_is_time : FA K mg "is_time" s_is_time ["library", "zone", "value"]
  f_check_time : FA K mg "check_time" s_check_time ["library", "zone", "value"]
  f_to_instant : FA K mg "to_instant" s_to_instant ["library", "zone", "time"]
  f_is_rule : FA K mg "is_rule" s_is_rule ["value"]
  f_check_rule : FA K mg "check_rule" s_check_rule ["value"]
  f_shape : FA K mg "shape" s_shape ["rule"]
  f_holds_for : FA K mg "holds_for" s_holds_for ["library", "zone", "rule", "arguments"]
  f_are_arguments : FA K mg "_are_arguments" s_are_arguments ["library", "zone", "words", "value"]
  f_is_argument : FA K mg "_is_argument" s_is_argument ["library", "zone", "word", "value"]
  f_check_kind : FA K mg "check_kind" s_check_kind ["value"]
  f_holds : FA K mg "holds" s_holds ["library", "kind", "rule"]
  f_counterexample : FA K mg "counterexample" s_counterexample ["library", "kind", "rule"]
  f_profile : FA K mg "profile" s_profile ["library", "kind"]
  f_implies : FA K mg "implies" s_implies ["kind", "one", "other"]
  f_parting : FA K mg "parting" s_parting ["kind", "one", "other"]
  f_libraries_with : FA K mg "libraries_with" s_libraries_with ["kind", "wanted"]
  f_most_rules : FA K mg "most_rules" s_most_rules ["kind"]
  f_check_duration : FA K mg "check_duration" s_check_duration ["value"]
  f_add : FA K mg "add" s_add ["library", "zone", "time", "duration"]
  f_subtract : FA K mg "subtract" s_subtract ["library", "zone", "one", "other"]
  f_compare : FA K mg "compare" s_compare ["library", "zone", "one", "other"]
  f_law_taken : FA K mg "_law_taken" s_law_taken ["row", "many"]
  f_law_pick : FA K mg "_law_pick" s_law_pick ["row", "kinds"]
  f_law_zone : FA K mg "_law_zone" s_law_zone ["row", "kind"]
  f_law_library : FA K mg "_law_library" s_law_library ["row"]
  f_law_offset : FA K mg "_law_offset" s_law_offset ["zone", "instant"]
  f_law_instants : FA K mg "_law_instants" s_law_instants ["zone", "reading"]
  f_law_times : FA K mg "_law_times" s_law_times ["way", "zone", "reading"]
  f_law_rules : FA K mg "_law_rules" s_law_rules []
  f_law_shape : FA K mg "_law_shape" s_law_shape ["rule"]
  f_law_spot : FA K mg "_law_spot" s_law_spot ["row", "zone"]
  f_law_time : FA K mg "_law_time" s_law_time ["row", "way", "zone"]
  f_law_hours : FA K mg "_law_hours" s_law_hours ["row"]
  f_law_arguments : FA K mg "_law_arguments" s_law_arguments ["row", "way", "zone", "rule"]
  f_law_wrong : FA K mg "_law_wrong" s_law_wrong ["work"]
  f_law : FA K mg "law" s_law ["script"]
  e_TimeError : Addr
  g_TimeError : mg "TimeError" = some (.ref e_TimeError)
  e_BadZone : Addr
  g_BadZone : mg "BadZone" = some (.ref e_BadZone)
  x_BadZone : ErrC K e_BadZone
  m_BadZone : PySem.W.exmOne K (.ref e_BadZone) (.ref e_TimeError) = some true
  e_BadInstant : Addr
  g_BadInstant : mg "BadInstant" = some (.ref e_BadInstant)
  x_BadInstant : ErrC K e_BadInstant
  m_BadInstant : PySem.W.exmOne K (.ref e_BadInstant) (.ref e_TimeError) = some true
  e_BadReading : Addr
  g_BadReading : mg "BadReading" = some (.ref e_BadReading)
  x_BadReading : ErrC K e_BadReading
  m_BadReading : PySem.W.exmOne K (.ref e_BadReading) (.ref e_TimeError) = some true
  e_BadLibrary : Addr
  g_BadLibrary : mg "BadLibrary" = some (.ref e_BadLibrary)
  x_BadLibrary : ErrC K e_BadLibrary
  m_BadLibrary : PySem.W.exmOne K (.ref e_BadLibrary) (.ref e_TimeError) = some true
  e_BadTime : Addr
  g_BadTime : mg "BadTime" = some (.ref e_BadTime)
  x_BadTime : ErrC K e_BadTime
  m_BadTime : PySem.W.exmOne K (.ref e_BadTime) (.ref e_TimeError) = some true
  e_BadDuration : Addr
  g_BadDuration : mg "BadDuration" = some (.ref e_BadDuration)
  x_BadDuration : ErrC K e_BadDuration
  m_BadDuration : PySem.W.exmOne K (.ref e_BadDuration) (.ref e_TimeError) = some true
  e_BadRule : Addr
  g_BadRule : mg "BadRule" = some (.ref e_BadRule)
  x_BadRule : ErrC K e_BadRule
  m_BadRule : PySem.W.exmOne K (.ref e_BadRule) (.ref e_TimeError) = some true
  e_BadArguments : Addr
  g_BadArguments : mg "BadArguments" = some (.ref e_BadArguments)
  x_BadArguments : ErrC K e_BadArguments
  m_BadArguments : PySem.W.exmOne K (.ref e_BadArguments) (.ref e_TimeError) = some true
  e_BadKind : Addr
  g_BadKind : mg "BadKind" = some (.ref e_BadKind)
  x_BadKind : ErrC K e_BadKind
  m_BadKind : PySem.W.exmOne K (.ref e_BadKind) (.ref e_TimeError) = some true
  e_BadRules : Addr
  g_BadRules : mg "BadRules" = some (.ref e_BadRules)
  x_BadRules : ErrC K e_BadRules
  m_BadRules : PySem.W.exmOne K (.ref e_BadRules) (.ref e_TimeError) = some true
  kits : Kits K [e_BadZone, e_BadInstant, e_BadReading, e_BadLibrary, e_BadTime, e_BadDuration, e_BadRule, e_BadArguments, e_BadKind, e_BadRules]
  z_tuple : mg "tuple" = none
  z_sorted : mg "sorted" = none
  z_len : mg "len" = none
  z_isinstance : mg "isinstance" = none
  z_bool : mg "bool" = none
  z_int : mg "int" = none
  z_abs : mg "abs" = none
  z_str : mg "str" = none
  z_all : mg "all" = none
  z_zip : mg "zip" = none
  z_range : mg "range" = none
  z_list : mg "list" = none
  a_PASSES_IN_GAP : Addr
  c_PASSES_IN_GAP : mg "PASSES_IN_GAP" = some (.ref a_PASSES_IN_GAP)
  t_PASSES_IN_GAP : ∃ es n, KDict K w a_PASSES_IN_GAP es n
  b_PASSES_IN_GAP_0 : Addr
  q_PASSES_IN_GAP_0 : ∀ H : Hp, SqT K H b_PASSES_IN_GAP_0 [.int 0]
  k_PASSES_IN_GAP_0 : KDct K w a_PASSES_IN_GAP "keep" (.ref b_PASSES_IN_GAP_0)
  b_PASSES_IN_GAP_1 : Addr
  q_PASSES_IN_GAP_1 : ∀ H : Hp, SqT K H b_PASSES_IN_GAP_1 []
  k_PASSES_IN_GAP_1 : KDct K w a_PASSES_IN_GAP "refuse" (.ref b_PASSES_IN_GAP_1)
  b_PASSES_IN_GAP_2 : Addr
  q_PASSES_IN_GAP_2 : ∀ H : Hp, SqT K H b_PASSES_IN_GAP_2 []
  k_PASSES_IN_GAP_2 : KDct K w a_PASSES_IN_GAP "shift" (.ref b_PASSES_IN_GAP_2)
  a_PASSES_IN_FOLD : Addr
  c_PASSES_IN_FOLD : mg "PASSES_IN_FOLD" = some (.ref a_PASSES_IN_FOLD)
  t_PASSES_IN_FOLD : ∃ es n, KDict K w a_PASSES_IN_FOLD es n
  b_PASSES_IN_FOLD_0 : Addr
  q_PASSES_IN_FOLD_0 : ∀ H : Hp, SqT K H b_PASSES_IN_FOLD_0 [.int 0, .int 1]
  k_PASSES_IN_FOLD_0 : KDct K w a_PASSES_IN_FOLD "both" (.ref b_PASSES_IN_FOLD_0)
  b_PASSES_IN_FOLD_1 : Addr
  q_PASSES_IN_FOLD_1 : ∀ H : Hp, SqT K H b_PASSES_IN_FOLD_1 [.int 0]
  k_PASSES_IN_FOLD_1 : KDct K w a_PASSES_IN_FOLD "first" (.ref b_PASSES_IN_FOLD_1)
  b_PASSES_IN_FOLD_2 : Addr
  q_PASSES_IN_FOLD_2 : ∀ H : Hp, SqT K H b_PASSES_IN_FOLD_2 []
  k_PASSES_IN_FOLD_2 : KDct K w a_PASSES_IN_FOLD "refuse" (.ref b_PASSES_IN_FOLD_2)
  b_PASSES_IN_FOLD_3 : Addr
  q_PASSES_IN_FOLD_3 : ∀ H : Hp, SqT K H b_PASSES_IN_FOLD_3 [.int 0]
  k_PASSES_IN_FOLD_3 : KDct K w a_PASSES_IN_FOLD "second" (.ref b_PASSES_IN_FOLD_3)
  u_MOST_INSTANT : Tok
  c_MOST_INSTANT : mg "MOST_INSTANT" = some (Value.int 100000 u_MOST_INSTANT)
  u_MOST_READING : Tok
  c_MOST_READING : mg "MOST_READING" = some (Value.int 90000 u_MOST_READING)
  u_MOST_DURATION : Tok
  c_MOST_DURATION : mg "MOST_DURATION" = some (Value.int 9000 u_MOST_DURATION)
  u_MOST_FIRST_OFFSET : Tok
  c_MOST_FIRST_OFFSET : mg "MOST_FIRST_OFFSET" = some (Value.int 12 u_MOST_FIRST_OFFSET)
  u_MOST_CHANGES : Tok
  c_MOST_CHANGES : mg "MOST_CHANGES" = some (Value.int 8 u_MOST_CHANGES)
  u_MOST_CHANGE_INSTANT : Tok
  c_MOST_CHANGE_INSTANT : mg "MOST_CHANGE_INSTANT" = some (Value.int 1000 u_MOST_CHANGE_INSTANT)
  u_LEAST_DISTANCE : Tok
  c_LEAST_DISTANCE : mg "LEAST_DISTANCE" = some (Value.int 12 u_LEAST_DISTANCE)
  u_MOST_STEP : Tok
  c_MOST_STEP : mg "MOST_STEP" = some (Value.int 3 u_MOST_STEP)
  u_MOST_LATER_OFFSET : Tok
  c_MOST_LATER_OFFSET : mg "MOST_LATER_OFFSET" = some (Value.int 15 u_MOST_LATER_OFFSET)
  a_SUMS : Addr
  c_SUMS : mg "SUMS" = some (.ref a_SUMS)
  q_SUMS : ∀ H : Hp, SqT K H a_SUMS [.str "elapsed", .str "wall"]
  a_ORDERS : Addr
  c_ORDERS : mg "ORDERS" = some (.ref a_ORDERS)
  q_ORDERS : ∀ H : Hp, SqT K H a_ORDERS [.str "elapsed", .str "wall"]
  a_GAPS : Addr
  c_GAPS : mg "GAPS" = some (.ref a_GAPS)
  q_GAPS : ∀ H : Hp, SqT K H a_GAPS [.str "keep", .str "refuse", .str "shift"]
  a_FOLDS : Addr
  c_FOLDS : mg "FOLDS" = some (.ref a_FOLDS)
  q_FOLDS : ∀ H : Hp, SqT K H a_FOLDS [.str "both", .str "first", .str "refuse", .str "second"]
  a_SHAPES : Addr
  c_SHAPES : mg "SHAPES" = some (.ref a_SHAPES)
  t_SHAPES : ∃ es n, KDict K w a_SHAPES es n
  b_SHAPES_0 : Addr
  q_SHAPES_0 : ∀ H : Hp, SqT K H b_SHAPES_0 [.str "instant"]
  k_SHAPES_0 : KDct K w a_SHAPES "from universal and back" (.ref b_SHAPES_0)
  b_SHAPES_1 : Addr
  q_SHAPES_1 : ∀ H : Hp, SqT K H b_SHAPES_1 [.str "time"]
  k_SHAPES_1 : KDct K w a_SHAPES "to universal and back" (.ref b_SHAPES_1)
  b_SHAPES_2 : Addr
  q_SHAPES_2 : ∀ H : Hp, SqT K H b_SHAPES_2 [.str "reading"]
  k_SHAPES_2 : KDct K w a_SHAPES "every reading" (.ref b_SHAPES_2)
  b_SHAPES_3 : Addr
  q_SHAPES_3 : ∀ H : Hp, SqT K H b_SHAPES_3 [.str "reading"]
  k_SHAPES_3 : KDct K w a_SHAPES "some reading" (.ref b_SHAPES_3)
  b_SHAPES_4 : Addr
  q_SHAPES_4 : ∀ H : Hp, SqT K H b_SHAPES_4 [.str "time", .str "duration"]
  k_SHAPES_4 : KDct K w a_SHAPES "there and back" (.ref b_SHAPES_4)
  b_SHAPES_5 : Addr
  q_SHAPES_5 : ∀ H : Hp, SqT K H b_SHAPES_5 [.str "time", .str "duration", .str "duration"]
  k_SHAPES_5 : KDct K w a_SHAPES "sum of durations" (.ref b_SHAPES_5)
  b_SHAPES_6 : Addr
  q_SHAPES_6 : ∀ H : Hp, SqT K H b_SHAPES_6 [.str "time", .str "duration"]
  k_SHAPES_6 : KDct K w a_SHAPES "elapsed time" (.ref b_SHAPES_6)
  b_SHAPES_7 : Addr
  q_SHAPES_7 : ∀ H : Hp, SqT K H b_SHAPES_7 [.str "time"]
  k_SHAPES_7 : KDct K w a_SHAPES "same clock" (.ref b_SHAPES_7)
  b_SHAPES_8 : Addr
  q_SHAPES_8 : ∀ H : Hp, SqT K H b_SHAPES_8 [.str "time", .str "duration"]
  k_SHAPES_8 : KDct K w a_SHAPES "later" (.ref b_SHAPES_8)
  b_SHAPES_9 : Addr
  q_SHAPES_9 : ∀ H : Hp, SqT K H b_SHAPES_9 [.str "time", .str "duration"]
  k_SHAPES_9 : KDct K w a_SHAPES "sums told" (.ref b_SHAPES_9)
  b_SHAPES_10 : Addr
  q_SHAPES_10 : ∀ H : Hp, SqT K H b_SHAPES_10 [.str "time", .str "time"]
  k_SHAPES_10 : KDct K w a_SHAPES "difference recovers" (.ref b_SHAPES_10)
  b_SHAPES_11 : Addr
  q_SHAPES_11 : ∀ H : Hp, SqT K H b_SHAPES_11 [.str "time", .str "time"]
  k_SHAPES_11 : KDct K w a_SHAPES "order by difference" (.ref b_SHAPES_11)
  b_SHAPES_12 : Addr
  q_SHAPES_12 : ∀ H : Hp, SqT K H b_SHAPES_12 [.str "time", .str "time"]
  k_SHAPES_12 : KDct K w a_SHAPES "equal means one instant" (.ref b_SHAPES_12)
  b_SHAPES_13 : Addr
  q_SHAPES_13 : ∀ H : Hp, SqT K H b_SHAPES_13 [.str "time", .str "time"]
  k_SHAPES_13 : KDct K w a_SHAPES "one instant means equal" (.ref b_SHAPES_13)
  b_SHAPES_14 : Addr
  q_SHAPES_14 : ∀ H : Hp, SqT K H b_SHAPES_14 [.str "time", .str "time"]
  k_SHAPES_14 : KDct K w a_SHAPES "one instant, one time" (.ref b_SHAPES_14)
  b_SHAPES_15 : Addr
  q_SHAPES_15 : ∀ H : Hp, SqT K H b_SHAPES_15 [.str "time", .str "time"]
  k_SHAPES_15 : KDct K w a_SHAPES "order of instants" (.ref b_SHAPES_15)
  b_SHAPES_16 : Addr
  q_SHAPES_16 : ∀ H : Hp, SqT K H b_SHAPES_16 [.str "time", .str "time", .str "duration"]
  k_SHAPES_16 : KDct K w a_SHAPES "order kept" (.ref b_SHAPES_16)
  b_SHAPES_17 : Addr
  q_SHAPES_17 : ∀ H : Hp, SqT K H b_SHAPES_17 [.str "time", .str "time", .str "duration"]
  k_SHAPES_17 : KDct K w a_SHAPES "equal sums" (.ref b_SHAPES_17)
  n_SHAPES_0 : PySem.W.nsIn K a_SHAPES "" = some none
  n_SHAPES_1 : PySem.W.nsIn K a_SHAPES "Later" = some none
  n_SHAPES_2 : PySem.W.nsIn K a_SHAPES "later " = some none
  u_MOST_DURATION_OF_RULES : Tok
  c_MOST_DURATION_OF_RULES : mg "MOST_DURATION_OF_RULES" = some (Value.int 4000 u_MOST_DURATION_OF_RULES)
  a_KINDS : Addr
  c_KINDS : mg "KINDS" = some (.ref a_KINDS)
  q_KINDS : ∀ H : Hp, SqT K H a_KINDS [.str "fixed", .str "skips", .str "repeats", .str "both"]
end TH
set_option maxHeartbeats 0
namespace TH
open PySem PySem.Spec PyProof.Rows L2
def d_offset_in_force : He.DefD := ⟨("offset_in_force", none), "offset_in_force", "offset_in_force", defArgs s_offset_in_force, defBody s_offset_in_force, defScope s_offset_in_force, [], []⟩
def d_instants_with : He.DefD := ⟨("instants_with", none), "instants_with", "instants_with", defArgs s_instants_with, defBody s_instants_with, defScope s_instants_with, [], []⟩
def d_passes_at : He.DefD := ⟨("passes_at", none), "passes_at", "passes_at", defArgs s_passes_at, defBody s_passes_at, defScope s_passes_at, [], []⟩
def d_is_between : He.DefD := ⟨("is_between", none), "is_between", "is_between", defArgs s_is_between, defBody s_is_between, defScope s_is_between, [], []⟩
def d_is_tuple_of : He.DefD := ⟨("is_tuple_of", none), "is_tuple_of", "is_tuple_of", defArgs s_is_tuple_of, defBody s_is_tuple_of, defScope s_is_tuple_of, [], []⟩
def d_is_instant : He.DefD := ⟨("is_instant", none), "is_instant", "is_instant", defArgs s_is_instant, defBody s_is_instant, defScope s_is_instant, [], []⟩
def d_is_reading : He.DefD := ⟨("is_reading", none), "is_reading", "is_reading", defArgs s_is_reading, defBody s_is_reading, defScope s_is_reading, [], []⟩
def d_is_duration : He.DefD := ⟨("is_duration", none), "is_duration", "is_duration", defArgs s_is_duration, defBody s_is_duration, defScope s_is_duration, [], []⟩
def d_is_zone : He.DefD := ⟨("is_zone", none), "is_zone", "is_zone", defArgs s_is_zone, defBody s_is_zone, defScope s_is_zone, [], []⟩
def d_are_changes_after : He.DefD := ⟨("_are_changes_after", none), "_are_changes_after", "_are_changes_after", defArgs s_are_changes_after, defBody s_are_changes_after, defScope s_are_changes_after, [], []⟩
def d_is_change_after : He.DefD := ⟨("_is_change_after", none), "_is_change_after", "_is_change_after", defArgs s_is_change_after, defBody s_is_change_after, defScope s_is_change_after, [], []⟩
def d_check_zone : He.DefD := ⟨("check_zone", none), "check_zone", "check_zone", defArgs s_check_zone, defBody s_check_zone, defScope s_check_zone, [], []⟩
def d_is_library : He.DefD := ⟨("is_library", none), "is_library", "is_library", defArgs s_is_library, defBody s_is_library, defScope s_is_library, [], []⟩
def d_check_library : He.DefD := ⟨("check_library", none), "check_library", "check_library", defArgs s_check_library, defBody s_check_library, defScope s_check_library, [], []⟩
def d_is_time : He.DefD := ⟨("is_time", none), "is_time", "is_time", defArgs s_is_time, defBody s_is_time, defScope s_is_time, [], []⟩
def d_check_time : He.DefD := ⟨("check_time", none), "check_time", "check_time", defArgs s_check_time, defBody s_check_time, defScope s_check_time, [], []⟩
def d_to_instant : He.DefD := ⟨("to_instant", none), "to_instant", "to_instant", defArgs s_to_instant, defBody s_to_instant, defScope s_to_instant, [], []⟩
def d_is_rule : He.DefD := ⟨("is_rule", none), "is_rule", "is_rule", defArgs s_is_rule, defBody s_is_rule, defScope s_is_rule, [], []⟩
def d_check_rule : He.DefD := ⟨("check_rule", none), "check_rule", "check_rule", defArgs s_check_rule, defBody s_check_rule, defScope s_check_rule, [], []⟩
def d_shape : He.DefD := ⟨("shape", none), "shape", "shape", defArgs s_shape, defBody s_shape, defScope s_shape, [], []⟩
def d_holds_for : He.DefD := ⟨("holds_for", none), "holds_for", "holds_for", defArgs s_holds_for, defBody s_holds_for, defScope s_holds_for, [], []⟩
def d_are_arguments : He.DefD := ⟨("_are_arguments", none), "_are_arguments", "_are_arguments", defArgs s_are_arguments, defBody s_are_arguments, defScope s_are_arguments, [], []⟩
def d_is_argument : He.DefD := ⟨("_is_argument", none), "_is_argument", "_is_argument", defArgs s_is_argument, defBody s_is_argument, defScope s_is_argument, [], []⟩
def d_check_kind : He.DefD := ⟨("check_kind", none), "check_kind", "check_kind", defArgs s_check_kind, defBody s_check_kind, defScope s_check_kind, [], []⟩
def d_holds : He.DefD := ⟨("holds", none), "holds", "holds", defArgs s_holds, defBody s_holds, defScope s_holds, [], []⟩
def d_counterexample : He.DefD := ⟨("counterexample", none), "counterexample", "counterexample", defArgs s_counterexample, defBody s_counterexample, defScope s_counterexample, [], []⟩
def d_profile : He.DefD := ⟨("profile", none), "profile", "profile", defArgs s_profile, defBody s_profile, defScope s_profile, [], []⟩
def d_implies : He.DefD := ⟨("implies", none), "implies", "implies", defArgs s_implies, defBody s_implies, defScope s_implies, [], []⟩
def d_parting : He.DefD := ⟨("parting", none), "parting", "parting", defArgs s_parting, defBody s_parting, defScope s_parting, [], []⟩
def d_libraries_with : He.DefD := ⟨("libraries_with", none), "libraries_with", "libraries_with", defArgs s_libraries_with, defBody s_libraries_with, defScope s_libraries_with, [], []⟩
def d_most_rules : He.DefD := ⟨("most_rules", none), "most_rules", "most_rules", defArgs s_most_rules, defBody s_most_rules, defScope s_most_rules, [], []⟩
def d_check_duration : He.DefD := ⟨("check_duration", none), "check_duration", "check_duration", defArgs s_check_duration, defBody s_check_duration, defScope s_check_duration, [], []⟩
def d_add : He.DefD := ⟨("add", none), "add", "add", defArgs s_add, defBody s_add, defScope s_add, [], []⟩
def d_subtract : He.DefD := ⟨("subtract", none), "subtract", "subtract", defArgs s_subtract, defBody s_subtract, defScope s_subtract, [], []⟩
def d_compare : He.DefD := ⟨("compare", none), "compare", "compare", defArgs s_compare, defBody s_compare, defScope s_compare, [], []⟩
def d_law_taken : He.DefD := ⟨("_law_taken", none), "_law_taken", "_law_taken", defArgs s_law_taken, defBody s_law_taken, defScope s_law_taken, [], []⟩
def d_law_pick : He.DefD := ⟨("_law_pick", none), "_law_pick", "_law_pick", defArgs s_law_pick, defBody s_law_pick, defScope s_law_pick, [], []⟩
def d_law_zone : He.DefD := ⟨("_law_zone", none), "_law_zone", "_law_zone", defArgs s_law_zone, defBody s_law_zone, defScope s_law_zone, [], []⟩
def d_law_library : He.DefD := ⟨("_law_library", none), "_law_library", "_law_library", defArgs s_law_library, defBody s_law_library, defScope s_law_library, [], []⟩
def d_law_offset : He.DefD := ⟨("_law_offset", none), "_law_offset", "_law_offset", defArgs s_law_offset, defBody s_law_offset, defScope s_law_offset, [], []⟩
def d_law_instants : He.DefD := ⟨("_law_instants", none), "_law_instants", "_law_instants", defArgs s_law_instants, defBody s_law_instants, defScope s_law_instants, [], []⟩
def d_law_times : He.DefD := ⟨("_law_times", none), "_law_times", "_law_times", defArgs s_law_times, defBody s_law_times, defScope s_law_times, [], []⟩
def d_law_rules : He.DefD := ⟨("_law_rules", none), "_law_rules", "_law_rules", defArgs s_law_rules, defBody s_law_rules, defScope s_law_rules, [], []⟩
def d_law_shape : He.DefD := ⟨("_law_shape", none), "_law_shape", "_law_shape", defArgs s_law_shape, defBody s_law_shape, defScope s_law_shape, [], []⟩
def d_law_spot : He.DefD := ⟨("_law_spot", none), "_law_spot", "_law_spot", defArgs s_law_spot, defBody s_law_spot, defScope s_law_spot, [], []⟩
def d_law_time : He.DefD := ⟨("_law_time", none), "_law_time", "_law_time", defArgs s_law_time, defBody s_law_time, defScope s_law_time, [], []⟩
def d_law_hours : He.DefD := ⟨("_law_hours", none), "_law_hours", "_law_hours", defArgs s_law_hours, defBody s_law_hours, defScope s_law_hours, [], []⟩
def d_law_arguments : He.DefD := ⟨("_law_arguments", none), "_law_arguments", "_law_arguments", defArgs s_law_arguments, defBody s_law_arguments, defScope s_law_arguments, [], []⟩
def d_law_wrong : He.DefD := ⟨("_law_wrong", none), "_law_wrong", "_law_wrong", defArgs s_law_wrong, defBody s_law_wrong, defScope s_law_wrong, [], []⟩
def d_law : He.DefD := ⟨("law", none), "law", "law", defArgs s_law, defBody s_law, defScope s_law, [], []⟩
def fn : List He.DefD := [d_offset_in_force, d_instants_with, d_passes_at, d_is_between, d_is_tuple_of, d_is_instant, d_is_reading, d_is_duration, d_is_zone, d_are_changes_after, d_is_change_after, d_check_zone, d_is_library, d_check_library, d_is_time, d_check_time, d_to_instant, d_is_rule, d_check_rule, d_shape, d_holds_for, d_are_arguments, d_is_argument, d_check_kind, d_holds, d_counterexample, d_profile, d_implies, d_parting, d_libraries_with, d_most_rules, d_check_duration, d_add, d_subtract, d_compare, d_law_taken, d_law_pick, d_law_zone, d_law_library, d_law_offset, d_law_instants, d_law_times, d_law_rules, d_law_shape, d_law_spot, d_law_time, d_law_hours, d_law_arguments, d_law_wrong, d_law]
def fa : List He.Fa := [.glo "offset_in_force", .glo "instants_with", .glo "passes_at", .glo "is_between", .glo "is_tuple_of", .glo "is_instant", .glo "is_reading", .glo "is_duration", .glo "is_zone", .glo "_are_changes_after", .glo "_is_change_after", .glo "check_zone", .glo "is_library", .glo "check_library", .glo "is_time", .glo "check_time", .glo "to_instant", .glo "is_rule", .glo "check_rule", .glo "shape", .glo "holds_for", .glo "_are_arguments", .glo "_is_argument", .glo "check_kind", .glo "holds", .glo "counterexample", .glo "profile", .glo "implies", .glo "parting", .glo "libraries_with", .glo "most_rules", .glo "check_duration", .glo "add", .glo "subtract", .glo "compare", .glo "_law_taken", .glo "_law_pick", .glo "_law_zone", .glo "_law_library", .glo "_law_offset", .glo "_law_instants", .glo "_law_times", .glo "_law_rules", .glo "_law_shape", .glo "_law_spot", .glo "_law_time", .glo "_law_hours", .glo "_law_arguments", .glo "_law_wrong", .glo "law", .glo "TimeError", .glo "BadZone", .glo "BadInstant", .glo "BadReading", .glo "BadLibrary", .glo "BadTime", .glo "BadDuration", .glo "BadRule", .glo "BadArguments", .glo "BadKind", .glo "BadRules", .free "tuple", .free "sorted", .free "len", .free "isinstance", .free "bool", .free "int", .free "abs", .free "str", .free "all", .free "zip", .free "range", .free "list", .glo "PASSES_IN_GAP", .glo "PASSES_IN_FOLD", .int "MOST_INSTANT" 100000, .int "MOST_READING" 90000, .int "MOST_DURATION" 9000, .int "MOST_FIRST_OFFSET" 12, .int "MOST_CHANGES" 8, .int "MOST_CHANGE_INSTANT" 1000, .int "LEAST_DISTANCE" 12, .int "MOST_STEP" 3, .int "MOST_LATER_OFFSET" 15, .glo "SUMS", .glo "ORDERS", .glo "GAPS", .glo "FOLDS", .glo "SHAPES", .int "MOST_DURATION_OF_RULES" 4000, .glo "KINDS"]
abbrev R : PySem.W.OpenRow := PySem.W.OpenLaw.row PySem.Challenge.rw_timeheld_k11_whole_refused_later
def ts : List He.Tab := [(gaF "PASSES_IN_GAP", ["keep", "refuse", "shift"]), (gaF "PASSES_IN_FOLD", ["both", "first", "refuse", "second"]), (gaF "SHAPES", ["from universal and back", "to universal and back", "every reading", "some reading", "there and back", "sum of durations", "elapsed time", "same clock", "later", "sums told", "difference recovers", "order by difference", "equal means one instant", "one instant means equal", "one instant, one time", "order of instants", "order kept", "equal sums"])]
def ps : List (PySem.W.Frag → Bool) := [valsD (gaF "PASSES_IN_GAP") [(("keep" : Str), .adr (dctAt (gaF "PASSES_IN_GAP") "keep")), (("refuse" : Str), .adr (dctAt (gaF "PASSES_IN_GAP") "refuse")), (("shift" : Str), .adr (dctAt (gaF "PASSES_IN_GAP") "shift"))],
  tupD (dctAt (gaF "PASSES_IN_GAP") "keep") [.int 0],
  tupD (dctAt (gaF "PASSES_IN_GAP") "refuse") [],
  tupD (dctAt (gaF "PASSES_IN_GAP") "shift") [],
  valsD (gaF "PASSES_IN_FOLD") [(("both" : Str), .adr (dctAt (gaF "PASSES_IN_FOLD") "both")), (("first" : Str), .adr (dctAt (gaF "PASSES_IN_FOLD") "first")), (("refuse" : Str), .adr (dctAt (gaF "PASSES_IN_FOLD") "refuse")), (("second" : Str), .adr (dctAt (gaF "PASSES_IN_FOLD") "second"))],
  tupD (dctAt (gaF "PASSES_IN_FOLD") "both") [.int 0, .int 1],
  tupD (dctAt (gaF "PASSES_IN_FOLD") "first") [.int 0],
  tupD (dctAt (gaF "PASSES_IN_FOLD") "refuse") [],
  tupD (dctAt (gaF "PASSES_IN_FOLD") "second") [.int 0],
  tupD (gaF "SUMS") [.str "elapsed", .str "wall"],
  tupD (gaF "ORDERS") [.str "elapsed", .str "wall"],
  tupD (gaF "GAPS") [.str "keep", .str "refuse", .str "shift"],
  tupD (gaF "FOLDS") [.str "both", .str "first", .str "refuse", .str "second"],
  valsD (gaF "SHAPES") [(("from universal and back" : Str), .adr (dctAt (gaF "SHAPES") "from universal and back")), (("to universal and back" : Str), .adr (dctAt (gaF "SHAPES") "to universal and back")), (("every reading" : Str), .adr (dctAt (gaF "SHAPES") "every reading")), (("some reading" : Str), .adr (dctAt (gaF "SHAPES") "some reading")), (("there and back" : Str), .adr (dctAt (gaF "SHAPES") "there and back")), (("sum of durations" : Str), .adr (dctAt (gaF "SHAPES") "sum of durations")), (("elapsed time" : Str), .adr (dctAt (gaF "SHAPES") "elapsed time")), (("same clock" : Str), .adr (dctAt (gaF "SHAPES") "same clock")), (("later" : Str), .adr (dctAt (gaF "SHAPES") "later")), (("sums told" : Str), .adr (dctAt (gaF "SHAPES") "sums told")), (("difference recovers" : Str), .adr (dctAt (gaF "SHAPES") "difference recovers")), (("order by difference" : Str), .adr (dctAt (gaF "SHAPES") "order by difference")), (("equal means one instant" : Str), .adr (dctAt (gaF "SHAPES") "equal means one instant")), (("one instant means equal" : Str), .adr (dctAt (gaF "SHAPES") "one instant means equal")), (("one instant, one time" : Str), .adr (dctAt (gaF "SHAPES") "one instant, one time")), (("order of instants" : Str), .adr (dctAt (gaF "SHAPES") "order of instants")), (("order kept" : Str), .adr (dctAt (gaF "SHAPES") "order kept")), (("equal sums" : Str), .adr (dctAt (gaF "SHAPES") "equal sums"))],
  tupD (dctAt (gaF "SHAPES") "from universal and back") [.str "instant"],
  tupD (dctAt (gaF "SHAPES") "to universal and back") [.str "time"],
  tupD (dctAt (gaF "SHAPES") "every reading") [.str "reading"],
  tupD (dctAt (gaF "SHAPES") "some reading") [.str "reading"],
  tupD (dctAt (gaF "SHAPES") "there and back") [.str "time", .str "duration"],
  tupD (dctAt (gaF "SHAPES") "sum of durations") [.str "time", .str "duration", .str "duration"],
  tupD (dctAt (gaF "SHAPES") "elapsed time") [.str "time", .str "duration"],
  tupD (dctAt (gaF "SHAPES") "same clock") [.str "time"],
  tupD (dctAt (gaF "SHAPES") "later") [.str "time", .str "duration"],
  tupD (dctAt (gaF "SHAPES") "sums told") [.str "time", .str "duration"],
  tupD (dctAt (gaF "SHAPES") "difference recovers") [.str "time", .str "time"],
  tupD (dctAt (gaF "SHAPES") "order by difference") [.str "time", .str "time"],
  tupD (dctAt (gaF "SHAPES") "equal means one instant") [.str "time", .str "time"],
  tupD (dctAt (gaF "SHAPES") "one instant means equal") [.str "time", .str "time"],
  tupD (dctAt (gaF "SHAPES") "one instant, one time") [.str "time", .str "time"],
  tupD (dctAt (gaF "SHAPES") "order of instants") [.str "time", .str "time"],
  tupD (dctAt (gaF "SHAPES") "order kept") [.str "time", .str "time", .str "duration"],
  tupD (dctAt (gaF "SHAPES") "equal sums") [.str "time", .str "time", .str "duration"],
  nonB (gaF "SHAPES") "",
  nonB (gaF "SHAPES") "Later",
  nonB (gaF "SHAPES") "later ",
  tupD (gaF "KINDS") [.str "fixed", .str "skips", .str "repeats", .str "both"],
  errB (gaF "BadZone"),
  excB (gaF "BadZone") (gaF "TimeError"),
  errB (gaF "BadInstant"),
  excB (gaF "BadInstant") (gaF "TimeError"),
  errB (gaF "BadReading"),
  excB (gaF "BadReading") (gaF "TimeError"),
  errB (gaF "BadLibrary"),
  excB (gaF "BadLibrary") (gaF "TimeError"),
  errB (gaF "BadTime"),
  excB (gaF "BadTime") (gaF "TimeError"),
  errB (gaF "BadDuration"),
  excB (gaF "BadDuration") (gaF "TimeError"),
  errB (gaF "BadRule"),
  excB (gaF "BadRule") (gaF "TimeError"),
  errB (gaF "BadArguments"),
  excB (gaF "BadArguments") (gaF "TimeError"),
  errB (gaF "BadKind"),
  excB (gaF "BadKind") (gaF "TimeError"),
  errB (gaF "BadRules"),
  excB (gaF "BadRules") (gaF "TimeError"),
  kitsB [gaF "BadZone", gaF "BadInstant", gaF "BadReading", gaF "BadLibrary", gaF "BadTime", gaF "BadDuration", gaF "BadRule", gaF "BadArguments", gaF "BadKind", gaF "BadRules"],
  apartB [gaF "BadZone", gaF "BadInstant", gaF "BadReading", gaF "BadLibrary", gaF "BadTime", gaF "BadDuration", gaF "BadRule", gaF "BadArguments", gaF "BadKind", gaF "BadRules"]]
def tfs : List He.Defn := [("law", none)]
def as_ : List Addr := [3, 6, 154, 159, 166, 167, 171, 182, 189, 196, 203, 210, 217, 224, 231, 238, 245, 252, 259, 266, 267, 268, 269, 270, 277, 282, 289, 296, 303, 310, 313, 316, 317, 343, 364, 371, 376, 381, 386, 391, 398, 405, 412, 419, 426, 433, 440, 447, 454, 461, 468, 475, 482, 489, 496, 503, 510, 517, 524, 531, 538, 545, 552, 559, 560, 568, 569, 595, 602, 609, 616, 623, 628, 635, 636, 643, 650, 657, 662, 667, 674, 681, 686, 691, 696, 703, 710, 717, 724, 731, 738, 745, 752, 757, 762, 769, 776, 783, 790, 797, 804, 811, 818, 825, 153, 158, 165, 181, 188, 195, 202, 209, 216, 223, 230, 237, 244, 251, 258, 265, 276, 281, 288, 295, 302, 309, 363, 370, 375, 380, 385, 390, 397, 404, 411, 418, 425, 432, 439, 446, 453, 460, 467, 474, 481, 488, 495, 502, 509, 516, 523, 530, 537, 544, 551, 558, 567, 594, 601, 608, 615, 622, 627, 634, 642, 649, 656, 661, 666, 673, 680, 685, 690, 695, 702, 709, 716, 723, 730, 737, 744, 751, 756, 761, 768, 775, 782, 789, 796, 803, 810, 817, 824, 168, 169, 170, 172, 173, 174, 175, 312, 311, 315, 314, 319, 318, 320, 321, 323, 322, 325, 324, 327, 326, 330, 328, 329, 333, 331, 332, 336, 334, 335, 339, 337, 338, 342, 340, 341, 344, 345, 347, 346, 350, 348, 349, 353, 351, 352, 356, 354, 355, 359, 357, 358, 570, 571, 572, 573, 574, 575, 576, 577, 578, 579, 580, 581, 582, 583, 584, 585, 586, 588, 24, 23, 37, 36, 49, 48, 61, 60, 73, 72, 85, 84, 97, 96, 109, 108, 121, 120, 133, 132, 145, 144]
abbrev hk : PySem.W.Hook := hookLT as_ fa fn ts tfs ps
def ob (s : PySem.W.SharedT) : He.AlX := obsLT as_ fa fn ts tfs ps (HandSHeadRun.getT s)
theorem ob_eq (s : PySem.W.SharedT) : ob s = hk.obs s.abs := obsLT_eq (HandSHeadRun.getT_eq s)
def loose : List PySem.Str := [("TimeError" : PySem.Str), ("BadZone" : PySem.Str), ("BadInstant" : PySem.Str), ("BadReading" : PySem.Str), ("BadLibrary" : PySem.Str), ("BadTime" : PySem.Str), ("BadDuration" : PySem.Str), ("BadRule" : PySem.Str), ("BadArguments" : PySem.Str), ("BadKind" : PySem.Str), ("BadRules" : PySem.Str), ("offset_in_force" : PySem.Str), ("instants_with" : PySem.Str), ("offset_before_gap" : PySem.Str), ("REFUSED" : PySem.Str), ("PASSES_IN_GAP" : PySem.Str), ("PASSES_IN_FOLD" : PySem.Str), ("passes_at" : PySem.Str), ("instant_of_time" : PySem.Str), ("time_at" : PySem.Str), ("time_read" : PySem.Str), ("MOST_INSTANT" : PySem.Str), ("MOST_READING" : PySem.Str), ("MOST_DURATION" : PySem.Str), ("is_between" : PySem.Str), ("is_tuple_of" : PySem.Str), ("is_instant" : PySem.Str), ("is_reading" : PySem.Str), ("is_duration" : PySem.Str), ("MOST_FIRST_OFFSET" : PySem.Str), ("MOST_LATER_OFFSET" : PySem.Str), ("MOST_CHANGES" : PySem.Str), ("MOST_CHANGE_INSTANT" : PySem.Str), ("LEAST_DISTANCE" : PySem.Str), ("MOST_STEP" : PySem.Str), ("is_zone" : PySem.Str), ("_are_changes_after" : PySem.Str), ("_is_change_after" : PySem.Str), ("check_zone" : PySem.Str), ("SUMS" : PySem.Str), ("ORDERS" : PySem.Str), ("GAPS" : PySem.Str), ("FOLDS" : PySem.Str), ("is_library" : PySem.Str), ("all_libraries" : PySem.Str), ("check_library" : PySem.Str), ("is_time" : PySem.Str), ("check_time" : PySem.Str), ("to_instant" : PySem.Str), ("GAP_ZONE" : PySem.Str), ("FOLD_ZONE" : PySem.Str), ("IN_GAP" : PySem.Str), ("IN_FOLD" : PySem.Str), ("arguments_in_gap" : PySem.Str), ("arguments_in_fold" : PySem.Str), ("_arguments_in_fold_for_wall_sums" : PySem.Str), ("_arguments_in_fold_for_elapsed_sums" : PySem.Str), ("holds_over_gaps" : PySem.Str), ("holds_over_folds" : PySem.Str), ("place_of" : PySem.Str), ("time_after" : PySem.Str), ("hours_between" : PySem.Str), ("order_of" : PySem.Str), ("HOURS_OF_A_DAY" : PySem.Str), ("_from_universal_and_back" : PySem.Str), ("_to_universal_and_back" : PySem.Str), ("_every_reading" : PySem.Str), ("_some_reading" : PySem.Str), ("_there_and_back" : PySem.Str), ("_sum_of_durations" : PySem.Str), ("_elapsed_time" : PySem.Str), ("_same_clock" : PySem.Str), ("_later" : PySem.Str), ("_sums_told" : PySem.Str), ("_difference_recovers" : PySem.Str), ("_order_by_difference" : PySem.Str), ("_have_one_instant" : PySem.Str), ("_equal_means_one_instant" : PySem.Str), ("_one_instant_means_equal" : PySem.Str), ("_one_instant_one_time" : PySem.Str), ("_order_of_instants" : PySem.Str), ("_order_kept" : PySem.Str), ("_equal_sums" : PySem.Str), ("_are_sums_in_order" : PySem.Str), ("STATEMENTS" : PySem.Str), ("is_true_of" : PySem.Str), ("MOST_DURATION_OF_RULES" : PySem.Str), ("SHAPES" : PySem.Str), ("rules" : PySem.Str), ("is_rule" : PySem.Str), ("check_rule" : PySem.Str), ("shape" : PySem.Str), ("holds_for" : PySem.Str), ("_are_arguments" : PySem.Str), ("_is_argument" : PySem.Str), ("KINDS" : PySem.Str), ("check_kind" : PySem.Str), ("holds" : PySem.Str), ("counterexample" : PySem.Str), ("check_rules" : PySem.Str), ("profile" : PySem.Str), ("implies" : PySem.Str), ("parting" : PySem.Str), ("libraries_with" : PySem.Str), ("_keeps_all" : PySem.Str), ("most_rules" : PySem.Str), ("check_duration" : PySem.Str), ("add" : PySem.Str), ("subtract" : PySem.Str), ("compare" : PySem.Str), ("_law_taken" : PySem.Str), ("_law_pick" : PySem.Str), ("_law_zone" : PySem.Str), ("_law_library" : PySem.Str), ("_law_offset" : PySem.Str), ("_law_instants" : PySem.Str), ("_law_times" : PySem.Str), ("_law_rules" : PySem.Str), ("_law_shape" : PySem.Str), ("_law_spot" : PySem.Str), ("_law_time" : PySem.Str), ("_law_hours" : PySem.Str), ("_law_arguments" : PySem.Str), ("_law_wrong" : PySem.Str)]
theorem run0 (w : World) : HandSHeadRun.RunEq R (PySem.W.view R.prog [139]) hk ob 12000 loose (w.withFollow "special-get-raises" false) := by
  intro os
  kernel_rfl
theorem run1 (w : World) : HandSHeadRun.RunEq R (PySem.W.view R.prog [139]) hk ob 12000 loose (w.withFollow "special-get-raises" true) := by
  intro os
  kernel_rfl
theorem run (w : World) : HandSHeadRun.RunEq R (PySem.W.view R.prog [139]) hk ob 12000 loose w := PySem.W.byRow2 "special-get-raises" (P := fun w => HandSHeadRun.RunEq R (PySem.W.view R.prog [139]) hk ob 12000 loose w) run0 run1 w

local macro_rules | `(tactic| walk_at "sq") => `(tactic| first
  | assumption
  | exact SqT.of (by assumption)
  | exact SqL.of (by assumption)
  | ((refine Evl.ex_t (H := ?h0) ?e0 ?q0); (case e0 => assumption); (case q0 => walk_at "sq")))
local macro_rules | `(tactic| walk_at "eb") => `(tactic| first
  | ((with_reducible apply evV_var); exact rfl)
  | with_reducible exact evV_c
  | ((with_reducible apply evV_not) <;> walk_at "eb")
  | ((with_reducible apply evV_or) <;> walk_at "eb")
  | ((with_reducible apply evV_and) <;> walk_at "eb")
  | ((with_reducible apply evV_if) <;> walk_at "eb")
  | ((with_reducible apply evK_B) <;> walk_at "eb")
  | ((with_reducible apply evK_test) <;> walk_at "eb")
  | ((with_reducible apply evK_not) <;> walk_at "eb")
  | ((with_reducible apply evV_eqB) <;> walk_at "eb")
  | ((with_reducible apply evV_eqS) <;> walk_at "eb")
  | ((with_reducible apply evV_neS) <;> walk_at "eb"))
local macro_rules | `(tactic| walk_at "m") => `(tactic| first
  | with_reducible refine g_seq ?_
  | with_reducible refine g_asg ?_
  | ((with_reducible refine g_var (v := ?gv) ?ge ?_); (case ge => exact rfl))
  | with_reducible refine g_c ?_
  | with_reducible refine g_op ?_
  | with_reducible refine g_name ?_
  | with_reducible refine g_I0 ?_
  | with_reducible refine g_cons ?_
  | with_reducible refine g_nil ?_
  | with_reducible refine g_call ?_
  | with_reducible refine g_CB ?_
  | with_reducible refine g_test ?_
  | with_reducible refine g_B ?_
  | with_reducible refine g_bl ?_
  | with_reducible refine g_not ?_
  | with_reducible refine g_and ?_
  | with_reducible refine g_or ?_
  | with_reducible refine g_ret ?_
  | with_reducible refine g_retN ?_
  | with_reducible refine g_drop ?_
  | with_reducible refine g_next ?_
  | with_reducible refine g_brk ?_
  | with_reducible refine g_cont ?_
  | with_reducible refine g_un ?_
  | with_reducible refine g_U ?_
  | with_reducible refine g_for ?_
  | with_reducible refine g_iTup ?_
  | with_reducible refine g_iList ?_
  | with_reducible refine g_rng1 ?_
  | with_reducible refine g_rng2 ?_
  | with_reducible refine g_gcons ?_
  | with_reducible refine g_gnil ?_
  | with_reducible refine g_eqI ?_
  | with_reducible refine g_neI ?_
  | with_reducible refine g_eqS ?_
  | with_reducible refine g_neS ?_
  | with_reducible refine g_eqB ?_
  | with_reducible refine g_neB ?_
  | with_reducible refine g_lcTup ?_
  | with_reducible refine g_lcList ?_
  | with_reducible refine g_scList ?_
  | ((with_reducible refine g_ixT (xs := ?xs) (v := ?gv) ?hq ?he ?_); (case hq => walk_at "sq"); (case he => exact rfl))
  | ((with_reducible refine g_gtup (xs := ?xs) ?hq ?he ?_); (case hq => walk_at "sq"); (case he => exact rfl))
  | with_reducible refine g_yes ?_
  | with_reducible refine if_tt ?_
  | with_reducible refine if_ff ?_
  | with_reducible refine g_chain ?_
  | with_reducible refine g_pcons ?_
  | with_reducible refine g_pnil ?_
  | with_reducible refine g_dget2 ?_
  | with_reducible refine g_sub ?_
  | with_reducible refine g_isB ?_
  | with_reducible refine g_notB ?_
  | with_reducible refine g_isN ?_
  | with_reducible refine g_notN ?_
  | ((with_reducible refine g_I ?gi ?_); (case gi => (first
      | (show (0 : Int) < _; omega)
      | exact cmul_r (by omega) (by omega)
      | exact cmul_l (by omega) (by omega)
      | exact cdiv_of (by omega) (by omega)
      | exact cpow_of (by omega) (by omega) (by omega))))
  | with_reducible refine g_match ?_
  | with_reducible refine g_mstr ?_
  | ((with_reducible refine g_caseT ?e ?_); (case e => decide +kernel))
  | ((with_reducible refine g_caseF ?e ?_); (case e => decide +kernel))
  | with_reducible refine g_caseN ?_
  | with_reducible refine g_callH ?_
  | with_reducible refine if_nt ?_
  | with_reducible refine if_nf ?_
  | with_reducible refine g_asg2 ?_
  | with_reducible refine g_par3 ?_
  | with_reducible refine g_par3_ ?_
  | with_reducible refine g_int ?_
  | with_reducible refine g_intB ?_
  | with_reducible refine g_abs ?_
  | with_reducible refine g_par ?_
  | with_reducible refine g_par_ ?_
  | ((with_reducible refine if_t ?e ?_); (case e => decide +kernel))
  | ((with_reducible refine if_f ?e ?_); (case e => decide +kernel))
  | ((with_reducible refine if_t ?e ?_); (case e => exact rfl))
  | ((with_reducible refine if_f ?e ?_); (case e => exact rfl)))
local macro_rules | `(tactic| walk_at "n") => `(tactic| first
  | walk_at "m"
  | with_reducible refine g_tup ?_
  | with_reducible refine g_lst ?_
  | with_reducible refine g_orV ?_
  | with_reducible refine g_andV ?_
  | with_reducible refine g_notV ?_)
local macro_rules | `(tactic| walk_at "mm") => `(tactic| repeat walk_at "m")
local macro_rules | `(tactic| walk_at "g") => `(tactic| first | walk_at "n" | with_reducible refine g_if ?_ | with_reducible refine g_ifS ?_)
local macro_rules | `(tactic| walk_at "nn") => `(tactic| repeat walk_at "n")
local macro_rules | `(tactic| walk_at "gg") => `(tactic| repeat walk_at "g")
local macro_rules | `(tactic| walk_at "q") => `(tactic| first | walk_at "m" | with_reducible refine g_orV ?_ | with_reducible refine g_andV ?_ | with_reducible refine g_notV ?_ | with_reducible refine g_if ?_ | with_reducible refine g_ifS ?_)
local macro_rules | `(tactic| walk_at "qq") => `(tactic| repeat walk_at "q")
local macro_rules | `(tactic| walk_at "m") => `(tactic| first
  | with_reducible refine g_m1 ?_
  | with_reducible refine g_isS ?_
  | with_reducible refine g_lcStr ?_
  | with_reducible refine g_join ?_
  | with_reducible refine g_js ?_
  | with_reducible refine g_jsN ?_
  | with_reducible refine g_fmt ?_
  | with_reducible refine g_callLam ?_
  | with_reducible refine g_revT ?_)

/-! ### the mathematics' functions -/
def offGo (t : Int) : Int → List (Int × Int) → Int
  | cur, [] => cur
  | cur, p :: r => if p.1 > t then cur else offGo t p.2 r
def off (z : Zone) (t : Int) : Int := offGo t z.1 z.2
theorem offGo_mem (t : Int) : ∀ (cs : List (Int × Int)) (cur : Int), offGo t cur cs ∈ cur :: cs.map (·.2)
  | [], cur => by simp [offGo]
  | p :: r, cur => by
    unfold offGo
    split
    · simp
    · have h := offGo_mem t r p.2
      simp only [List.map_cons, List.mem_cons] at h ⊢
      exact .inr h
def okC (before earliest : Int) (p : Int × Int) : Bool := decide (earliest ≤ p.1 ∧ p.1 ≤ 1000) && (decide (-15 ≤ p.2 ∧ p.2 ≤ 15) && decide (1 ≤ (p.2 - before).natAbs ∧ (p.2 - before).natAbs ≤ 3))
def okGo : Int → Int → List (Int × Int) → Bool
  | _, _, [] => true
  | before, earliest, p :: r => okC before earliest p && okGo p.2 (p.1 + 12) r
theorem okGo_cons (b e : Int) (p : Int × Int) (r : List (Int × Int)) : okGo b e (p :: r) = (okC b e p && okGo p.2 (p.1 + 12) r) := rfl
def okZ (z : Zone) : Bool := decide (-12 ≤ z.1 ∧ z.1 ≤ 12) && (decide (z.2.length ≤ 8) && okGo z.1 (-1000) z.2)
def kindGo : Int → Bool → Bool → List (Int × Int) → Bool × Bool
  | _, s, r, [] => (s, r)
  | before, s, r, p :: l => if p.2 > before then kindGo p.2 true r l else kindGo p.2 s true l
theorem kindGo_cons (b : Int) (s r : Bool) (p : Int × Int) (l : List (Int × Int)) : kindGo b s r (p :: l) = if p.2 > b then kindGo p.2 true r l else kindGo p.2 s true l := rfl
def kindOf (z : Zone) : Str := match kindGo z.1 false false z.2 with
  | (true, true) => "both"
  | (true, false) => "skips"
  | (false, true) => "repeats"
  | (false, false) => "fixed"
/-! ### promises -/
def sp_offset_in_force (K : PySem.W.Frag) : Sp := fun vs H Q _ => ∃ (zv : V) (z : Zone) (t : Int), vs = [zv, .int t] ∧ ZV K H zv z ∧ ∀ H', Ex H H' → Q (.int (off z t)) H'
def sp_instants_with (K : PySem.W.Frag) : Sp := fun vs H Q _ => ∃ (zv : V) (z : Zone) (t : Int), vs = [zv, .int t] ∧ ZV K H zv z ∧ z.2.length ≤ 8 ∧
  ∀ p H' (ns : List Int), H p = none → Ex H H' → TupD H' p (ns.map V.int) → ns.Pairwise (· < ·) → (∀ k, k ∈ ns ↔ k + off z k = t) → Q (.ref p) H'
def sp_is_between (K : PySem.W.Frag) : Sp := fun vs H Q _ => ∃ v lo hi : Int, vs = [.int v, .int lo, .int hi] ∧ Q (.bl (decide (lo ≤ v ∧ v ≤ hi))) H
def sp_is_tuple_of (K : PySem.W.Frag) : Sp := fun vs H Q _ => ∃ (n : Int) (a : Addr) (xs : List V), vs = [.int n, .ref a] ∧ SqT K H a xs ∧ Q (.bl (decide ((xs.length : Int) = n))) H
def sp_is_instant (K : PySem.W.Frag) : Sp := fun vs H Q _ => ∃ v : Int, vs = [.int v] ∧ Q (.bl (decide (-100000 ≤ v ∧ v ≤ 100000))) H
def sp_is_reading (K : PySem.W.Frag) : Sp := fun vs H Q _ => ∃ v : Int, vs = [.int v] ∧ Q (.bl (decide (-90000 ≤ v ∧ v ≤ 90000))) H
def sp_is_zone (K : PySem.W.Frag) : Sp := fun vs H Q _ => ∃ (zv : V) (z : Zone), vs = [zv] ∧ ZV K H zv z ∧ Q (.bl (okZ z)) H
def sp_are_changes_after (K : PySem.W.Frag) : Sp := fun vs H Q _ => ∃ (o : Int) (c : V) (cs : List (Int × Int)), vs = [.int o, c] ∧ CsV K H c cs ∧ Q (.bl (okGo o (-1000) cs)) H
def sp_is_change_after (K : PySem.W.Frag) : Sp := fun vs H Q _ => ∃ (b e : Int) (c : V) (p : Int × Int), vs = [.int b, .int e, c] ∧ PV K H c p ∧ Q (.bl (okC b e p)) H
def sp_check_zone (K : PySem.W.Frag) : Sp := fun vs H Q _ => ∃ (zv : V) (z : Zone), vs = [zv] ∧ ZV K H zv z ∧ okZ z = true ∧ Q .non H
def sp_check_instant (K : PySem.W.Frag) : Sp := fun vs H Q _ => ∃ v : Int, vs = [.int v] ∧ -100000 ≤ v ∧ v ≤ 100000 ∧ Q .non H
def sp_check_reading (K : PySem.W.Frag) : Sp := fun vs H Q _ => ∃ v : Int, vs = [.int v] ∧ -90000 ≤ v ∧ v ≤ 90000 ∧ Q .non H
def sp_offset_at (K : PySem.W.Frag) : Sp := fun vs H Q _ => ∃ (zv : V) (z : Zone) (t : Int), vs = [zv, .int t] ∧ ZV K H zv z ∧ okZ z = true ∧ -100000 ≤ t ∧ t ≤ 100000 ∧ ∀ H', Ex H H' → Q (.int (off z t)) H'
def sp_kind_of (K : PySem.W.Frag) : Sp := fun vs H Q _ => ∃ (zv : V) (z : Zone), vs = [zv] ∧ ZV K H zv z ∧ okZ z = true ∧ ∀ H', Ex H H' → Q (.str (kindOf z)) H'
def sp_instants_of (K : PySem.W.Frag) : Sp := fun vs H Q _ => ∃ (zv : V) (z : Zone) (t : Int), vs = [zv, .int t] ∧ ZV K H zv z ∧ okZ z = true ∧ -90000 ≤ t ∧ t ≤ 90000 ∧
  ∀ p H' (ns : List Int), H p = none → Ex H H' → TupD H' p (ns.map V.int) → ns.Pairwise (· < ·) → (∀ k, k ∈ ns ↔ k + off z k = t) → Q (.ref p) H'
section
variable {P : Program} {w : World} {K : PySem.W.Frag} {mg : Str → Option Value} {base : Heap}
theorem ok_offset_in_force (T : Txt w K mg) : FnOk P w K mg base CX0 1 T.f_offset_in_force.f T.f_offset_in_force.fd ["zone", "instant"] (sp_offset_in_force K) := by
  refine T.f_offset_in_force.F.ok sc_offset_in_force (fun vs H Q E h => ?_) (fun cdv A outer s H vs Q E hr h => ?_)
  · obtain ⟨zv, z, t, rfl, _⟩ := h
    rfl
  obtain ⟨zv, z, t, rfl, ⟨a, c, rfl, ha, b, xs, rfl, hb, hp⟩, k⟩ := h
  refine ⟨(tSeq (tAsg (tVar 0) (gTup K 2 (gCons (gName 2) (gCons (gName 3) gNil)))) (tSeq (tFor (iTup K (tVar 3)) (gTup K 2 (gCons (gName 4) (gCons (gName 5) gNil))) (tSeq (tIfS (tTest (tOp (rI0 fun i j => .bl (decide (j < i))) (tVar 4) (tVar 1))) tBreak tNext) (tAsg (tVar 5) (gName 2)))) (tRet (tVar 2)))),
    PSs.nox (pss_cons (ps_asg (pv 0) (pg_tup rfl (pgs_cons (pg_name (i := 2) sc_offset_in_force.nd rfl (Or.inl rfl)) (pgs_cons (pg_name (i := 3) sc_offset_in_force.nd rfl (Or.inl rfl)) pgs_nil)))) (pss_cons (ps_for PassesOwn.never rfl (pi_tup (pv 3)) (pg_tup rfl (pgs_cons (pg_name (i := 4) sc_offset_in_force.nd rfl (Or.inl rfl)) (pgs_cons (pg_name (i := 5) sc_offset_in_force.nd rfl (Or.inl rfl)) pgs_nil))) (pss_cons (ps_if (pt_cmpR op_gt (pv 4) (pv 1) (nomark _)) (pss_one ps_break) pss_nil) (pss_one (ps_set (i := 2) sc_offset_in_force.nd rfl (Or.inl rfl) (pv 5))))) (pss_one (ps_ret (pv 2))))), ?_⟩
  walk_at "gg"
  refine g_forT (F := PV K) hb hp (fun l σ' H' => Ex H H' ∧ ∃ cur s0 a0, offGo t cur l = off z t ∧ σ' = [some (.ref a), some (.int t), some (.int cur), some (.ref b), s0, a0])
    ⟨Evl.Ex.refl _, _, _, _, rfl, rfl⟩ (fun _ _ _ q => ⟨Evl.ex_t q.1 hb, fun _ _ h => h.tr (TrT.of q.1)⟩) ?_ ?_
  · rintro p l x σ' H' ⟨e, cur, s0, a0, q, rfl⟩ ⟨y, rfl, hy⟩
    unfold offGo at q
    walk_at "gg"
    refine if_d (fun c => ?_) (fun c => ?_)
    · walk_at "gg"
      rw [if_pos (by omega)] at q
      rw [q]
      exact k _ e
    · walk_at "gg"
      rw [if_neg (by omega)] at q
      exact ⟨e, _, _, _, q, rfl⟩
  · rintro σ' H' ⟨e, cur, s0, a0, q, rfl⟩
    walk_at "gg"
    rw [show cur = off z t from q]
    exact k _ e
theorem ok_instants_with (T : Txt w K mg) : FnOk P w K mg base CX0 2 T.f_instants_with.f T.f_instants_with.fd ["zone", "reading"] (sp_instants_with K) := by
  refine T.f_instants_with.F.ok sc_instants_with (fun vs H Q E h => ?_) (fun cdv A outer s H vs Q E hr h => ?_)
  · obtain ⟨zv, z, t, rfl, _⟩ := h
    rfl
  obtain ⟨zv, z, t, rfl, hz, h8, k⟩ := h
  obtain ⟨a, c, rfl, ha, b, xs, rfl, hb, hp⟩ := id hz
  refine ⟨(tSeq (tAsg (tVar 0) (gTup K 2 (gCons (gName 2) (gCons (gName 3) gNil)))) (tSeq (tAsg (tOp rCat (tLst (tCons (tVar 2) tNil)) (tLc (iTup K (tVar 3)) (gTup K 2 (gCons (gName 5) (gCons (gName 6) gNil))) tYes (tVar 6) [5, 6])) (gName 4)) (tRet (tCB (r_tupleF K) (tCons (tCB (rSortedSet w) (tCons (tScI w (iList K (tVar 4)) (gName 7) (tTest (tOp rEq (tCall (sp_offset_in_force K) [] E0 (tCons (tVar 0) (tCons (tOp (rI0 fun i j => .int (i - j)) (tVar 1) (tVar 7)) tNil))) (tVar 7))) (tOp (rI0 fun i j => .int (i - j)) (tVar 1) (tVar 7)) [7]) tNil)) tNil))))),
    PSs.nox (pss_cons (ps_asg (pv 0) (pg_tup rfl (pgs_cons (pg_name (i := 2) sc_instants_with.nd rfl (Or.inl rfl)) (pgs_cons (pg_name (i := 3) sc_instants_with.nd rfl (Or.inl rfl)) pgs_nil)))) (pss_cons (ps_set (i := 4) sc_instants_with.nd rfl (Or.inl rfl) (pe_op op_cat (pe_lst (pa_cons (pv 2) pa_nil)) (pe_lc (own := [("_", 5), ("after", 6)]) rfl sc_instants_with.nd (pi_tup (pv 3)) (blkOk_by (own := [("_", 5), ("after", 6)]) (N := ["zone", "reading", "offset", "changes", "offsets", "_", "after", "hours"]) (sc := defScope s_instants_with) (by decide +kernel)) (fun _ _ _ _ _ => (pg_tup rfl (pgs_cons (pg_name (i := 5) sc_instants_with.nd rfl (Or.inl rfl)) (pgs_cons (pg_name (i := 6) sc_instants_with.nd rfl (Or.inl rfl)) pgs_nil)))) (fun _ _ _ _ _ => pts_nil) (fun _ _ _ _ _ => (pv 6))))) (pss_one (ps_ret (pe_callTy call_tupleF (by rfl) T.z_tuple (by decide +kernel) (pa_cons (pe_callB (cr_sortedSet rfl) (by rfl) T.z_sorted (by decide +kernel) (pa_cons (pe_scI (own := [("hours", 7)]) rfl sc_instants_with.nd (pi_list (pv 4)) (blkOk_by (own := [("hours", 7)]) (N := ["zone", "reading", "offset", "changes", "offsets", "_", "after", "hours"]) (sc := defScope s_instants_with) (by decide +kernel)) (fun _ _ _ _ _ => (pg_name (i := 7) sc_instants_with.nd rfl (Or.inl rfl))) (fun _ _ _ _ _ => (pts_one (pt_cmpR op_eq (pe_call (ok_offset_in_force T) (hr.mono (by decide)) (by rfl) T.f_offset_in_force.g T.f_offset_in_force.F.kp T.f_offset_in_force.b .nil pass0 (pa_cons (pv 0) (pa_cons (pe_op op_sub (pv 1) (pv 7)) pa_nil))) (pv 7) (nomark _)))) (fun _ _ _ _ _ => (pe_op op_sub (pv 1) (pv 7)))) pa_nil)) pa_nil)))))), ?_⟩
  walk_at "gg"
  refine g_newL (by simp) fun l1 H1 n1 e1 h1 => ?_
  walk_at "gg"
  refine g_lcT (F := PV K) (Evl.ex_t e1 hb) (PVs.tr (TrT.of e1) hp) (by omega) (fun _ => true) (fun p => .int p.2) (fun _ _ _ e h => h.tr (TrT.of e)) ?_ ?_
  · rintro p x H2 e2 ⟨y, rfl, hy⟩ R S hR hS
    walk_at "gg"
    refine ⟨rfl, ?_⟩
    walk_at "gg"
    exact hS rfl _ (Evl.Ex.refl _)
  rintro l2 H2 n2 e2 h2
  rw [filt_all] at h2
  refine g_cat (e2 _ _ h1) h2 (by simp; omega) fun l3 H3 n3 e3 h3 => ?_
  have h3' : H3 l3 = some (.lst ((z.1 :: z.2.map (·.2)).map V.int)) := by
    rw [h3]
    simp
  walk_at "gg"
  have e03 : Ex H H3 := (e1.trans e2).trans e3
  refine g_scL (SqL.of h3') (by simp; omega) (fun h => decide (off z (t - h) = h)) (fun h => t - h) ?_ ?_
  · rintro h H4 e4 R S hR hS
    walk_at "gg"
    refine ⟨rfl, ?_⟩
    walk_at "gg"
    refine ⟨_, z, _, rfl, hz.tr (TrT.of (e03.trans e4)), fun H5 e5 => ?_⟩
    walk_at "gg"
    refine if_d (fun c => ?_) (fun c => ?_)
    · walk_at "gg"
      exact hS (decide_eq_true c) _ e5
    · exact hR (decide_eq_false c) _ e5
  rintro l4 H4 c n4 e4 hc h4
  walk_at "gg"
  refine g_sortedSet h4 (by simp at hc; omega) fun ns l5 H5 n5 e5 h5 hs hm => ?_
  walk_at "gg"
  refine g_tupleF (SqL.of h5) fun l6 H6 n6 e6 h6 => ?_
  refine k l6 H6 ns (Evl.fresh_back (e03.trans (e4.trans e5)) n6) (e03.trans (e4.trans (e5.trans e6))) h6 hs fun k => ?_
  rw [hm k]
  unfold mem_
  rw [List.take_length]
  simp only [List.any_eq_true, Bool.and_eq_true, decide_eq_true_eq]
  constructor
  · rintro ⟨h, _, h1, h2⟩
    rw [h2, h1]
    omega
  · intro q
    have m := offGo_mem k z.2 z.1
    rw [show offGo k z.1 z.2 = t - k by unfold off at q; omega] at m
    refine ⟨t - k, m, ?_, by omega⟩
    rw [show t - (t - k) = k by omega]
    omega
theorem ok_is_between (T : Txt w K mg) : FnOk P w K mg base CX0 1 T.f_is_between.f T.f_is_between.fd ["value", "low", "high"] (sp_is_between K) := by
  refine T.f_is_between.F.ok sc_is_between (fun vs H Q E h => ?_) (fun cdv A outer s H vs Q E hr h => ?_)
  · obtain ⟨v, lo, hi, rfl, _⟩ := h
    rfl
  obtain ⟨v, lo, hi, rfl, k⟩ := h
  refine ⟨(tSeq (tIfS (tOr (tNot (tB (tCB (rIsi K) (tCons (tVar 0) (tCons (tC (.ty "int")) tNil))))) (tB (tCB (rIsi K) (tCons (tVar 0) (tCons (tC (.ty "bool")) tNil))))) (tRet (tC (.bl false))) tNext) (tRet (tChain (rI0 fun i j => .bl (decide (i ≤ j))) (rI0 fun i j => .bl (decide (i ≤ j))) (tVar 1) (tVar 0) (tVar 2)))),
    PSs.nox (pss_cons (ps_if (PW.pt (pw_or (pt_not (pt_val (pe_callB call_isi (by rfl) T.z_isinstance (by decide +kernel) (pa_cons (pv 0) (pa_cons (pe_bltn (by rfl) T.z_int (by decide +kernel) rfl) pa_nil))))) (pw_or1 (pt_val (pe_callB call_isi (by rfl) T.z_isinstance (by decide +kernel) (pa_cons (pv 0) (pa_cons (pe_bltn (by rfl) T.z_bool (by decide +kernel) rfl) pa_nil))))))) (pss_one (ps_ret pe_bl)) pss_nil) (pss_one (ps_ret (pe_chain op_le op_le (pv 1) (pv 0) (pv 2))))), ?_⟩
  walk_at "gg"
  refine g_isi ty_int (by decide +kernel : kitB "int" "int" = some true) ?_
  walk_at "gg"
  refine g_isi ty_int (by decide +kernel : kitB "int" "bool" = some false) ?_
  walk_at "gg"
  refine if_d (fun c => ?_) (fun c => ?_)
  · walk_at "gg"
    rw [show decide (v ≤ hi) = decide (lo ≤ v ∧ v ≤ hi) from decide_eq_decide.mpr ⟨fun h => ⟨c, h⟩, fun h => h.2⟩]
    exact k
  · rw [decide_eq_false (fun h => c h.1)] at k
    exact k
theorem ok_is_tuple_of (T : Txt w K mg) : FnOk P w K mg base CX0 1 T.f_is_tuple_of.f T.f_is_tuple_of.fd ["many", "value"] (sp_is_tuple_of K) := by
  refine T.f_is_tuple_of.F.ok sc_is_tuple_of (fun vs H Q E h => ?_) (fun cdv A outer s H vs Q E hr h => ?_)
  · obtain ⟨v, a, xs, rfl, _⟩ := h
    rfl
  obtain ⟨v, a, xs, rfl, hx, k⟩ := h
  refine ⟨(tRet (tAndV (tCB (rIsi K) (tCons (tVar 1) (tCons (tC (.ty "tuple")) tNil))) (tOp rEq (tCB (Evl.rLenS K) (tCons (tVar 1) tNil)) (tVar 0)))),
    PSs.nox (pss_one (ps_ret (pe_and (pe_callB call_isi (by rfl) T.z_isinstance (by decide +kernel) (pa_cons (pv 1) (pa_cons (pe_bltn (by rfl) T.z_tuple (by decide +kernel) rfl) pa_nil))) (pe_one (pe_cmpR op_eq (pe_callB call_len_seq (by rfl) T.z_len (by decide +kernel) (pa_cons (pv 1) pa_nil)) (pv 0) (nomark _)))))), ?_⟩
  walk_at "gg"
  refine g_isi (ty_tup hx) (by decide +kernel : kitB "tuple" "tuple" = some true) ?_
  walk_at "gg"
  refine g_lenT hx ?_
  walk_at "gg"
  exact k
theorem ok_is_instant (T : Txt w K mg) : FnOk P w K mg base CX0 2 T.f_is_instant.f T.f_is_instant.fd ["value"] (sp_is_instant K) := by
  refine T.f_is_instant.F.ok sc_is_instant (fun vs H Q E h => ?_) (fun cdv A outer s H vs Q E hr h => ?_)
  · obtain ⟨v, rfl, _⟩ := h
    rfl
  obtain ⟨v, rfl, k⟩ := h
  refine ⟨(tRet (tCall (sp_is_between K) [] E0 (tCons (tVar 0) (tCons (tUn (rU fun i => .int (-i)) (tC (.int 100000))) (tCons (tC (.int 100000)) tNil))))),
    PSs.nox (pss_one (ps_ret (pe_call (ok_is_between T) (hr.mono (by decide)) (by rfl) T.f_is_between.g T.f_is_between.F.kp T.f_is_between.b .nil pass0 (pa_cons (pv 0) (pa_cons (pe_un un_neg (pe_glob (by rfl) T.c_MOST_INSTANT ⟨_, rfl⟩)) (pa_cons (pe_glob (by rfl) T.c_MOST_INSTANT ⟨_, rfl⟩) pa_nil)))))), ?_⟩
  walk_at "gg"
  exact ⟨_, _, _, rfl, k⟩
theorem ok_is_reading (T : Txt w K mg) : FnOk P w K mg base CX0 2 T.f_is_reading.f T.f_is_reading.fd ["value"] (sp_is_reading K) := by
  refine T.f_is_reading.F.ok sc_is_reading (fun vs H Q E h => ?_) (fun cdv A outer s H vs Q E hr h => ?_)
  · obtain ⟨v, rfl, _⟩ := h
    rfl
  obtain ⟨v, rfl, k⟩ := h
  refine ⟨(tRet (tCall (sp_is_between K) [] E0 (tCons (tVar 0) (tCons (tUn (rU fun i => .int (-i)) (tC (.int 90000))) (tCons (tC (.int 90000)) tNil))))),
    PSs.nox (pss_one (ps_ret (pe_call (ok_is_between T) (hr.mono (by decide)) (by rfl) T.f_is_between.g T.f_is_between.F.kp T.f_is_between.b .nil pass0 (pa_cons (pv 0) (pa_cons (pe_un un_neg (pe_glob (by rfl) T.c_MOST_READING ⟨_, rfl⟩)) (pa_cons (pe_glob (by rfl) T.c_MOST_READING ⟨_, rfl⟩) pa_nil)))))), ?_⟩
  walk_at "gg"
  exact ⟨_, _, _, rfl, k⟩
theorem ok_is_change_after (T : Txt w K mg) : FnOk P w K mg base CX0 2 T.f_is_change_after.f T.f_is_change_after.fd ["before", "earliest", "value"] (sp_is_change_after K) := by
  refine T.f_is_change_after.F.ok sc_is_change_after (fun vs H Q E h => ?_) (fun cdv A outer s H vs Q E hr h => ?_)
  · obtain ⟨b, e, c, p, rfl, _⟩ := h
    rfl
  obtain ⟨b, e, c, p, rfl, ⟨a, rfl, ha⟩, k⟩ := h
  unfold okC at k
  refine ⟨(tSeq (tIfS (tNot (tB (tCall (sp_is_tuple_of K) [] E0 (tCons (tC (.int 2)) (tCons (tVar 2) tNil))))) (tRet (tC (.bl false))) tNext) (tSeq (tAsg (tVar 2) (gTup K 2 (gCons (gName 3) (gCons (gName 4) gNil)))) (tSeq (tIfS (tNot (tB (tCall (sp_is_between K) [] E0 (tCons (tVar 3) (tCons (tVar 1) (tCons (tC (.int 1000)) tNil)))))) (tRet (tC (.bl false))) tNext) (tSeq (tIfS (tNot (tB (tCall (sp_is_between K) [] E0 (tCons (tVar 4) (tCons (tUn (rU fun i => .int (-i)) (tC (.int 15))) (tCons (tC (.int 15)) tNil)))))) (tRet (tC (.bl false))) tNext) (tRet (tChain (rI0 fun i j => .bl (decide (i ≤ j))) (rI0 fun i j => .bl (decide (i ≤ j))) (tC (.int 1)) (tCB r_abs (tCons (tOp (rI0 fun i j => .int (i - j)) (tVar 4) (tVar 0)) tNil)) (tC (.int 3)))))))),
    PSs.nox (pss_cons (ps_if (pt_not (pt_val (pe_call (ok_is_tuple_of T) (hr.mono (by decide)) (by rfl) T.f_is_tuple_of.g T.f_is_tuple_of.F.kp T.f_is_tuple_of.b .nil pass0 (pa_cons pe_int (pa_cons (pv 2) pa_nil))))) (pss_one (ps_ret pe_bl)) pss_nil) (pss_cons (ps_asg (pv 2) (pg_tup rfl (pgs_cons (pg_name (i := 3) sc_is_change_after.nd rfl (Or.inl rfl)) (pgs_cons (pg_name (i := 4) sc_is_change_after.nd rfl (Or.inl rfl)) pgs_nil)))) (pss_cons (ps_if (pt_not (pt_val (pe_call (ok_is_between T) (hr.mono (by decide)) (by rfl) T.f_is_between.g T.f_is_between.F.kp T.f_is_between.b .nil pass0 (pa_cons (pv 3) (pa_cons (pv 1) (pa_cons (pe_glob (by rfl) T.c_MOST_CHANGE_INSTANT ⟨_, rfl⟩) pa_nil)))))) (pss_one (ps_ret pe_bl)) pss_nil) (pss_cons (ps_if (pt_not (pt_val (pe_call (ok_is_between T) (hr.mono (by decide)) (by rfl) T.f_is_between.g T.f_is_between.F.kp T.f_is_between.b .nil pass0 (pa_cons (pv 4) (pa_cons (pe_un un_neg (pe_glob (by rfl) T.c_MOST_LATER_OFFSET ⟨_, rfl⟩)) (pa_cons (pe_glob (by rfl) T.c_MOST_LATER_OFFSET ⟨_, rfl⟩) pa_nil)))))) (pss_one (ps_ret pe_bl)) pss_nil) (pss_one (ps_ret (pe_chain op_le op_le pe_int (pe_callB call_abs (by rfl) T.z_abs (by decide +kernel) (pa_cons (pe_op op_sub (pv 4) (pv 0)) pa_nil)) (pe_glob (by rfl) T.c_MOST_STEP ⟨_, rfl⟩)))))))), ?_⟩
  walk_at "gg"
  refine ⟨_, _, _, rfl, ha, ?_⟩
  rw [show decide (((([V.int p.1, V.int p.2] : List V).length : Nat) : Int) = 2) = true from rfl]
  walk_at "gg"
  refine ⟨_, _, _, rfl, ?_⟩
  walk_at "gg"
  by_cases c1 : e ≤ p.1 ∧ p.1 ≤ 1000
  · rw [decide_eq_true c1] at k ⊢
    walk_at "gg"
    refine ⟨_, _, _, rfl, ?_⟩
    walk_at "gg"
    by_cases c2 : -15 ≤ p.2 ∧ p.2 ≤ 15
    · rw [decide_eq_true c2] at k ⊢
      walk_at "gg"
      refine if_d (fun c3 => ?_) (fun c3 => ?_)
      · walk_at "gg"
        rw [show decide ((if p.2 - b < 0 then -(p.2 - b) else p.2 - b) ≤ 3) = decide (1 ≤ (p.2 - b).natAbs ∧ (p.2 - b).natAbs ≤ 3) from decide_eq_decide.mpr (by split at c3 <;> split <;> omega)]
        exact k
      · rw [show (decide (1 ≤ (p.2 - b).natAbs ∧ (p.2 - b).natAbs ≤ 3)) = false from decide_eq_false (by split at c3 <;> omega)] at k
        exact k
    · rw [decide_eq_false c2] at k ⊢
      walk_at "gg"
      exact k
  · rw [decide_eq_false c1] at k ⊢
    walk_at "gg"
    exact k
theorem ok_are_changes_after (T : Txt w K mg) : FnOk P w K mg base CX0 3 T.f_are_changes_after.f T.f_are_changes_after.fd ["offset", "changes"] (sp_are_changes_after K) := by
  refine T.f_are_changes_after.F.ok sc_are_changes_after (fun vs H Q E h => ?_) (fun cdv A outer s H vs Q E hr h => ?_)
  · obtain ⟨o, c, cs, rfl, _⟩ := h
    rfl
  obtain ⟨o, c, cs, rfl, ⟨a, xs, rfl, ha, hp⟩, k⟩ := h
  refine ⟨(tSeq (tAsg (tUn (rU fun i => .int (-i)) (tC (.int 1000))) (gName 2)) (tSeq (tFor (iTup K (tVar 1)) (gName 3) (tSeq (tIfS (tNot (tB (tCall (sp_is_change_after K) [] E0 (tCons (tVar 0) (tCons (tVar 2) (tCons (tVar 3) tNil)))))) (tRet (tC (.bl false))) tNext) (tSeq (tAsg (tVar 3) (gTup K 2 (gCons (gName 4) (gCons (gName 0) gNil)))) (tAsg (tOp (rI0 fun i j => .int (i + j)) (tVar 4) (tC (.int 12))) (gName 2))))) (tRet (tC (.bl true))))),
    PSs.nox (pss_cons (ps_set (i := 2) sc_are_changes_after.nd rfl (Or.inl rfl) (pe_un un_neg (pe_glob (by rfl) T.c_MOST_CHANGE_INSTANT ⟨_, rfl⟩))) (pss_cons (ps_for PassesOwn.never rfl (pi_tup (pv 1)) (pg_name (i := 3) sc_are_changes_after.nd rfl (Or.inl rfl)) (pss_cons (ps_if (pt_not (pt_val (pe_call (ok_is_change_after T) (hr.mono (by decide)) (by rfl) T.f_is_change_after.g T.f_is_change_after.F.kp T.f_is_change_after.b .nil pass0 (pa_cons (pv 0) (pa_cons (pv 2) (pa_cons (pv 3) pa_nil)))))) (pss_one (ps_ret pe_bl)) pss_nil) (pss_cons (ps_asg (pv 3) (pg_tup rfl (pgs_cons (pg_name (i := 4) sc_are_changes_after.nd rfl (Or.inl rfl)) (pgs_cons (pg_name (i := 0) sc_are_changes_after.nd rfl (Or.inl rfl)) pgs_nil)))) (pss_one (ps_set (i := 2) sc_are_changes_after.nd rfl (Or.inl rfl) (pe_op op_add (pv 4) (pe_glob (by rfl) T.c_LEAST_DISTANCE ⟨_, rfl⟩))))))) (pss_one (ps_ret pe_bl)))), ?_⟩
  walk_at "gg"
  refine g_forT (F := PV K) ha hp (fun l σ' H' => H' = H ∧ ∃ o' e' c0 i0, okGo o' e' l = okGo o (-1000) cs ∧ σ' = [some (.int o'), some (.ref a), some (.int e'), c0, i0])
    ⟨rfl, _, _, _, _, rfl, rfl⟩ (fun _ _ _ q => by rw [q.1]; exact ⟨ha, fun _ _ h => h⟩) ?_ ?_
  · rintro p l x σ' H' ⟨rfl, o', e', c0, i0, q, rfl⟩ hv
    obtain ⟨y, rfl, hy⟩ := id hv
    rw [okGo_cons] at q
    walk_at "gg"
    refine ⟨_, _, _, _, rfl, hv, ?_⟩
    walk_at "gg"
    cases c1 : okC o' e' p with
    | true =>
      rw [c1] at q
      walk_at "gg"
      exact ⟨rfl, _, _, _, _, q, rfl⟩
    | false =>
      rw [c1] at q
      walk_at "gg"
      rw [← q] at k
      exact k
  · rintro σ' H' ⟨rfl, o', e', c0, i0, q, rfl⟩
    walk_at "gg"
    rw [← q] at k
    exact k
theorem ok_is_zone (T : Txt w K mg) : FnOk P w K mg base CX0 4 T.f_is_zone.f T.f_is_zone.fd ["value"] (sp_is_zone K) := by
  refine T.f_is_zone.F.ok sc_is_zone (fun vs H Q E h => ?_) (fun cdv A outer s H vs Q E hr h => ?_)
  · obtain ⟨zv, z, rfl, _⟩ := h
    rfl
  obtain ⟨zv, z, rfl, ⟨a, c, rfl, ha, hc⟩, k⟩ := h
  obtain ⟨b, xs, rfl, hb, hp⟩ := id hc
  unfold okZ at k
  refine ⟨(tSeq (tIfS (tNot (tB (tCall (sp_is_tuple_of K) [] E0 (tCons (tC (.int 2)) (tCons (tVar 0) tNil))))) (tRet (tC (.bl false))) tNext) (tSeq (tAsg (tVar 0) (gTup K 2 (gCons (gName 1) (gCons (gName 2) gNil)))) (tSeq (tIfS (tNot (tB (tCall (sp_is_between K) [] E0 (tCons (tVar 1) (tCons (tUn (rU fun i => .int (-i)) (tC (.int 12))) (tCons (tC (.int 12)) tNil)))))) (tRet (tC (.bl false))) tNext) (tSeq (tIfS (tOr (tNot (tB (tCB (rIsi K) (tCons (tVar 2) (tCons (tC (.ty "tuple")) tNil))))) (tTest (tOp (rI0 fun i j => .bl (decide (j < i))) (tCB (Evl.rLenS K) (tCons (tVar 2) tNil)) (tC (.int 8))))) (tRet (tC (.bl false))) tNext) (tRet (tCall (sp_are_changes_after K) [] E0 (tCons (tVar 1) (tCons (tVar 2) tNil)))))))),
    PSs.nox (pss_cons (ps_if (pt_not (pt_val (pe_call (ok_is_tuple_of T) (hr.mono (by decide)) (by rfl) T.f_is_tuple_of.g T.f_is_tuple_of.F.kp T.f_is_tuple_of.b .nil pass0 (pa_cons pe_int (pa_cons (pv 0) pa_nil))))) (pss_one (ps_ret pe_bl)) pss_nil) (pss_cons (ps_asg (pv 0) (pg_tup rfl (pgs_cons (pg_name (i := 1) sc_is_zone.nd rfl (Or.inl rfl)) (pgs_cons (pg_name (i := 2) sc_is_zone.nd rfl (Or.inl rfl)) pgs_nil)))) (pss_cons (ps_if (pt_not (pt_val (pe_call (ok_is_between T) (hr.mono (by decide)) (by rfl) T.f_is_between.g T.f_is_between.F.kp T.f_is_between.b .nil pass0 (pa_cons (pv 1) (pa_cons (pe_un un_neg (pe_glob (by rfl) T.c_MOST_FIRST_OFFSET ⟨_, rfl⟩)) (pa_cons (pe_glob (by rfl) T.c_MOST_FIRST_OFFSET ⟨_, rfl⟩) pa_nil)))))) (pss_one (ps_ret pe_bl)) pss_nil) (pss_cons (ps_if (PW.pt (pw_or (pt_not (pt_val (pe_callB call_isi (by rfl) T.z_isinstance (by decide +kernel) (pa_cons (pv 2) (pa_cons (pe_bltn (by rfl) T.z_tuple (by decide +kernel) rfl) pa_nil))))) (pw_or1 (pt_cmpR op_gt (pe_callB call_len_seq (by rfl) T.z_len (by decide +kernel) (pa_cons (pv 2) pa_nil)) (pe_glob (by rfl) T.c_MOST_CHANGES ⟨_, rfl⟩) (nomark _))))) (pss_one (ps_ret pe_bl)) pss_nil) (pss_one (ps_ret (pe_call (ok_are_changes_after T) (hr.mono (by decide)) (by rfl) T.f_are_changes_after.g T.f_are_changes_after.F.kp T.f_are_changes_after.b .nil pass0 (pa_cons (pv 1) (pa_cons (pv 2) pa_nil))))))))), ?_⟩
  walk_at "gg"
  refine ⟨_, _, _, rfl, ha, ?_⟩
  rw [show decide (((([V.int z.1, V.ref b] : List V).length : Nat) : Int) = 2) = true from rfl]
  walk_at "gg"
  refine ⟨_, _, _, rfl, ?_⟩
  walk_at "gg"
  by_cases c1 : -12 ≤ z.1 ∧ z.1 ≤ 12
  · rw [decide_eq_true c1] at k ⊢
    walk_at "gg"
    refine g_isi (ty_tup hb) (by decide +kernel : kitB "tuple" "tuple" = some true) ?_
    walk_at "gg"
    refine g_lenT hb ?_
    walk_at "gg"
    rw [hp.len]
    refine if_d (fun c2 => ?_) (fun c2 => ?_)
    · walk_at "gg"
      rw [decide_eq_false (by omega : ¬ z.2.length ≤ 8)] at k
      exact k
    · walk_at "gg"
      rw [decide_eq_true (by omega : z.2.length ≤ 8)] at k
      exact ⟨_, _, _, rfl, hc, k⟩
  · rw [decide_eq_false c1] at k ⊢
    walk_at "gg"
    exact k
theorem ok_check_zone (T : Txt w K mg) : FnOk P w K mg base CX0 5 T.f_check_zone.f T.f_check_zone.fd ["value"] (sp_check_zone K) := by
  refine T.f_check_zone.F.ok sc_check_zone (fun vs H Q E h => ?_) (fun cdv A outer s H vs Q E hr h => ?_)
  · obtain ⟨zv, z, rfl, _⟩ := h
    rfl
  obtain ⟨zv, z, rfl, hz, c, k⟩ := h
  refine ⟨(tIfS (tNot (tB (tCall (sp_is_zone K) [] E0 (tCons (tVar 0) tNil)))) tNever tNext),
    PSs.nox (pss_one (ps_if (pt_not (pt_val (pe_call (ok_is_zone T) (hr.mono (by decide)) (by rfl) T.f_is_zone.g T.f_is_zone.F.kp T.f_is_zone.b .nil pass0 (pa_cons (pv 0) pa_nil)))) (pss_one ps_never) pss_nil)), ?_⟩
  walk_at "gg"
  refine ⟨_, _, rfl, hz, ?_⟩
  rw [c]
  walk_at "gg"
  exact k
end
local macro_rules | `(tactic| walk_at "m") => `(tactic| first
  | with_reducible refine g_m1 ?_
  | with_reducible refine g_isS ?_
  | with_reducible refine g_lcStr ?_
  | with_reducible refine g_join ?_
  | with_reducible refine g_js ?_
  | with_reducible refine g_jsN ?_
  | with_reducible refine g_fmt ?_
  | with_reducible refine g_callLam ?_
  | with_reducible refine g_revT ?_)

/-! ### any data -/
inductive DaV (K : PySem.W.Frag) (H : Hp) : V → PyData → Prop
  | non : DaV K H .non .none
  | bl (b : Bool) : DaV K H (.bl b) (.bool b)
  | int (i : Int) : DaV K H (.int i) (.int i)
  | str (x : Str) : DaV K H (.str x) (.str x)
  | lst {a : Addr} {xs : List V} {ds : List PyData} : H a = some (.lst xs) → DaV K H (.ref a) (.list ds)
  | tup {a : Addr} {xs : List V} {ds : List PyData} : SqT K H a xs → xs.length = ds.length → (∀ (i : Nat) (x : V) (d : PyData), xs[i]? = some x → ds[i]? = some d → DaV K H x d) → DaV K H (.ref a) (.tuple ds)
theorem DaV.ex {K : PySem.W.Frag} {H H' : Hp} {v : V} {d : PyData} (h : DaV K H v d) (e : Ex H H') : DaV K H' v d := by
  induction h with
  | non => exact .non
  | bl b => exact .bl b
  | int i => exact .int i
  | str x => exact .str x
  | lst q => exact .lst (e _ _ q)
  | tup q l _ ih => exact .tup (Evl.ex_t e q) l ih
theorem dav_of_pair {K : PySem.W.Frag} {H : Hp} {v : V} {p : Int × Int} (h : PV K H v p) : DaV K H v (.tuple [.int p.1, .int p.2]) := by
  obtain ⟨a, rfl, h⟩ := h
  refine .tup h rfl fun i x d hx hd => ?_
  match i, hx, hd with
  | 0, hx, hd => cases hx; cases hd; exact .int _
  | 1, hx, hd => cases hx; cases hd; exact .int _
  | i + 2, hx, hd => simp at hx
theorem dav_of_zone {K : PySem.W.Frag} {H : Hp} {v : V} {z : Zone} (h : ZV K H v z) : DaV K H v (.tuple [.int z.1, .tuple (z.2.map fun p => .tuple [.int p.1, .int p.2])]) := by
  obtain ⟨a, c, rfl, q, b, xs, rfl, hb, hp⟩ := h
  refine .tup q rfl fun i x d hx hd => ?_
  match i, hx, hd with
  | 0, hx, hd => cases hx; cases hd; exact .int _
  | 1, hx, hd =>
    cases hx; cases hd
    refine .tup hb (by rw [List.length_map]; exact Paired.length hp) fun j x d hx hd => ?_
    obtain ⟨p, hp', f⟩ := pd_get hp hx
    rw [List.getElem?_map, hp'] at hd
    cases hd
    exact dav_of_pair f
  | i + 2, hx, hd => simp at hx
def betD (d : PyData) (lo hi : Int) : Bool := match d with
  | .int v => decide (lo ≤ v ∧ v ≤ hi)
  | _ => false
def tupN (d : PyData) (n : Int) : Bool := match d with
  | .tuple ds => decide ((ds.length : Int) = n)
  | _ => false
def okCD (b e : Int) (d : PyData) : Bool := match d with
  | .tuple [.int i, .int o] => okC b e (i, o)
  | _ => false
def okGoD : Int → Int → List PyData → Bool
  | _, _, [] => true
  | b, e, d :: r => okCD b e d && (match d with
    | .tuple [.int i, .int o] => okGoD o (i + 12) r
    | _ => false)
def restGo (d : PyData) (r : List PyData) : Bool := match d with
  | .tuple [.int i, .int o] => okGoD o (i + 12) r
  | _ => false
theorem okGoD_cons (b e : Int) (d : PyData) (r : List PyData) : okGoD b e (d :: r) = (okCD b e d && restGo d r) := by
  unfold restGo
  rfl
def okZD (d : PyData) : Bool := match d with
  | .tuple [.int o, .tuple cs] => decide (-12 ≤ o ∧ o ≤ 12) && (decide (cs.length ≤ 8) && okGoD o (-1000) cs)
  | _ => false
theorem two_of {α : Type} {xs : List α} (h : (xs.length : Int) = 2) : ∃ a b, xs = [a, b] := by
  match xs, h with
  | [a, b], _ => exact ⟨a, b, rfl⟩
  | [], h => cases h
  | [_], h => cases h
  | _ :: _ :: _ :: _, h => simp only [List.length_cons] at h; omega
theorem bet_int {d : PyData} {lo hi : Int} (h : betD d lo hi = true) : ∃ i, d = .int i ∧ lo ≤ i ∧ i ≤ hi := by
  cases d with
  | int i => exact ⟨i, rfl, of_decide_eq_true h⟩
  | _ => cases h
theorem dav_int {K : PySem.W.Frag} {H : Hp} {v : V} {i : Int} (h : DaV K H v (.int i)) : v = .int i := by cases h; rfl
/-- a pair of data -/
theorem dav_two {K : PySem.W.Frag} {H : Hp} {v : V} {d : PyData} (h : DaV K H v d) (t : tupN d 2 = true) : ∃ a x y p q, v = .ref a ∧ d = .tuple [p, q] ∧ SqT K H a [x, y] ∧ DaV K H x p ∧ DaV K H y q := by
  cases h with
  | tup hq l ih =>
    obtain ⟨p, q, rfl⟩ := two_of (of_decide_eq_true t)
    obtain ⟨x, y, rfl⟩ := two_of (by rw [l]; exact of_decide_eq_true t)
    exact ⟨_, x, y, p, q, rfl, rfl, hq, ih 0 x p rfl rfl, ih 1 y q rfl rfl⟩
  | _ => cases t
theorem okCD_not {b e : Int} {d : PyData} (h : tupN d 2 = false) : okCD b e d = false := by
  unfold okCD
  split
  · cases h
  · rfl
theorem okCD_pair {b e : Int} {p q : PyData} : okCD b e (.tuple [p, q]) = (betD p e 1000 && (betD q (-15) 15 && (match q with
    | .int o => decide (1 ≤ (o - b).natAbs ∧ (o - b).natAbs ≤ 3)
    | _ => false))) := by
  cases p <;> cases q <;> first | rfl | simp [okCD, betD]
theorem okCD_of {b e : Int} {d : PyData} (h : okCD b e d = true) : ∃ i o, d = .tuple [.int i, .int o] ∧ okC b e (i, o) = true := by
  unfold okCD at h
  split at h
  · exact ⟨_, _, rfl, h⟩
  · cases h
theorem okZD_not {d : PyData} (h : tupN d 2 = false) : okZD d = false := by
  unfold okZD
  split
  · cases h
  · rfl
theorem pd_of {α β : Type} {F : α → β → Prop} : ∀ {xs : List α} {ys : List β}, xs.length = ys.length → (∀ (i : Nat) (x : α) (y : β), xs[i]? = some x → ys[i]? = some y → F x y) → Paired F xs ys
  | [], [], _, _ => .nil
  | x :: xs, y :: ys, l, h => .cons (h 0 x y rfl rfl) (pd_of (Nat.succ.inj l) fun i a b h1 h2 => h (i + 1) a b h1 h2)
/-! ### promises -/
def sp_is_between_d (K : PySem.W.Frag) : Sp := fun vs H Q _ => ∃ (v : V) (d : PyData) (lo hi : Int), vs = [v, .int lo, .int hi] ∧ DaV K H v d ∧ Q (.bl (betD d lo hi)) H
def sp_is_tuple_of_d (K : PySem.W.Frag) : Sp := fun vs H Q _ => ∃ (n : Int) (v : V) (d : PyData), vs = [.int n, v] ∧ DaV K H v d ∧ Q (.bl (tupN d n)) H
def sp_is_change_after_d (K : PySem.W.Frag) : Sp := fun vs H Q _ => ∃ (b e : Int) (v : V) (d : PyData), vs = [.int b, .int e, v] ∧ DaV K H v d ∧ Q (.bl (okCD b e d)) H
def sp_are_changes_after_d (K : PySem.W.Frag) : Sp := fun vs H Q _ => ∃ (o : Int) (a : Addr) (xs : List V) (ds : List PyData), vs = [.int o, .ref a] ∧ SqT K H a xs ∧ Paired (DaV K H) xs ds ∧ Q (.bl (okGoD o (-1000) ds)) H
def sp_is_zone_d (K : PySem.W.Frag) : Sp := fun vs H Q _ => ∃ (v : V) (d : PyData), vs = [v] ∧ DaV K H v d ∧ Q (.bl (okZD d)) H
section
variable {P : Program} {w : World} {K : PySem.W.Frag} {mg : Str → Option Value} {base : Heap}
theorem ok_is_between_d (T : Txt w K mg) : FnOk P w K mg base CX0 1 T.f_is_between.f T.f_is_between.fd ["value", "low", "high"] (sp_is_between_d K) := by
  refine T.f_is_between.F.ok sc_is_between (fun vs H Q E h => ?_) (fun cdv A outer s H vs Q E hr h => ?_)
  · obtain ⟨v, d, lo, hi, rfl, _⟩ := h
    rfl
  obtain ⟨v, d, lo, hi, rfl, hv, k⟩ := h
  refine ⟨(tSeq (tIfS (tOr (tNot (tB (tCB (rIsi K) (tCons (tVar 0) (tCons (tC (.ty "int")) tNil))))) (tB (tCB (rIsi K) (tCons (tVar 0) (tCons (tC (.ty "bool")) tNil))))) (tRet (tC (.bl false))) tNext) (tRet (tChain (rI0 fun i j => .bl (decide (i ≤ j))) (rI0 fun i j => .bl (decide (i ≤ j))) (tVar 1) (tVar 0) (tVar 2)))),
    PSs.nox (pss_cons (ps_if (PW.pt (pw_or (pt_not (pt_val (pe_callB call_isi (by rfl) T.z_isinstance (by decide +kernel) (pa_cons (pv 0) (pa_cons (pe_bltn (by rfl) T.z_int (by decide +kernel) rfl) pa_nil))))) (pw_or1 (pt_val (pe_callB call_isi (by rfl) T.z_isinstance (by decide +kernel) (pa_cons (pv 0) (pa_cons (pe_bltn (by rfl) T.z_bool (by decide +kernel) rfl) pa_nil))))))) (pss_one (ps_ret pe_bl)) pss_nil) (pss_one (ps_ret (pe_chain op_le op_le (pv 1) (pv 0) (pv 2))))), ?_⟩
  walk_at "gg"
  cases hv with
  | non =>
    refine g_isi ty_non (by decide +kernel : kitB "NoneType" "int" = some false) ?_
    walk_at "gg"
    exact k
  | bl b =>
    refine g_isi ty_bl (by decide +kernel : kitB "bool" "int" = some true) ?_
    walk_at "gg"
    refine g_isi ty_bl (by decide +kernel : kitB "bool" "bool" = some true) ?_
    walk_at "gg"
    exact k
  | int i =>
    refine g_isi ty_int (by decide +kernel : kitB "int" "int" = some true) ?_
    walk_at "gg"
    refine g_isi ty_int (by decide +kernel : kitB "int" "bool" = some false) ?_
    walk_at "gg"
    have k : Q (.bl (decide (lo ≤ i ∧ i ≤ hi))) H := k
    refine if_d (fun c => ?_) (fun c => ?_)
    · walk_at "gg"
      rw [show decide (i ≤ hi) = decide (lo ≤ i ∧ i ≤ hi) from decide_eq_decide.mpr ⟨fun h => ⟨c, h⟩, fun h => h.2⟩]
      exact k
    · rw [decide_eq_false (fun h => c h.1)] at k
      exact k
  | str x =>
    refine g_isi ty_str (by decide +kernel : kitB "str" "int" = some false) ?_
    walk_at "gg"
    exact k
  | lst q =>
    refine g_isi (ty_lst q) (by decide +kernel : kitB "list" "int" = some false) ?_
    walk_at "gg"
    exact k
  | tup q l ih =>
    refine g_isi (ty_tup q) (by decide +kernel : kitB "tuple" "int" = some false) ?_
    walk_at "gg"
    exact k
theorem ok_is_tuple_of_d (T : Txt w K mg) : FnOk P w K mg base CX0 1 T.f_is_tuple_of.f T.f_is_tuple_of.fd ["many", "value"] (sp_is_tuple_of_d K) := by
  refine T.f_is_tuple_of.F.ok sc_is_tuple_of (fun vs H Q E h => ?_) (fun cdv A outer s H vs Q E hr h => ?_)
  · obtain ⟨n, v, d, rfl, _⟩ := h
    rfl
  obtain ⟨n, v, d, rfl, hv, k⟩ := h
  refine ⟨(tRet (tAndV (tCB (rIsi K) (tCons (tVar 1) (tCons (tC (.ty "tuple")) tNil))) (tOp rEq (tCB (Evl.rLenS K) (tCons (tVar 1) tNil)) (tVar 0)))),
    PSs.nox (pss_one (ps_ret (pe_and (pe_callB call_isi (by rfl) T.z_isinstance (by decide +kernel) (pa_cons (pv 1) (pa_cons (pe_bltn (by rfl) T.z_tuple (by decide +kernel) rfl) pa_nil))) (pe_one (pe_cmpR op_eq (pe_callB call_len_seq (by rfl) T.z_len (by decide +kernel) (pa_cons (pv 1) pa_nil)) (pv 0) (nomark _)))))), ?_⟩
  walk_at "gg"
  cases hv with
  | non =>
    refine g_isi ty_non (by decide +kernel : kitB "NoneType" "tuple" = some false) ?_
    walk_at "gg"
    exact k
  | bl b =>
    refine g_isi ty_bl (by decide +kernel : kitB "bool" "tuple" = some false) ?_
    walk_at "gg"
    exact k
  | int i =>
    refine g_isi ty_int (by decide +kernel : kitB "int" "tuple" = some false) ?_
    walk_at "gg"
    exact k
  | str x =>
    refine g_isi ty_str (by decide +kernel : kitB "str" "tuple" = some false) ?_
    walk_at "gg"
    exact k
  | lst q =>
    refine g_isi (ty_lst q) (by decide +kernel : kitB "list" "tuple" = some false) ?_
    walk_at "gg"
    exact k
  | tup q l ih =>
    refine g_isi (ty_tup q) (by decide +kernel : kitB "tuple" "tuple" = some true) ?_
    walk_at "gg"
    refine g_lenT q ?_
    walk_at "gg"
    rw [l]
    exact k
theorem ok_is_change_after_d (T : Txt w K mg) : FnOk P w K mg base CX0 2 T.f_is_change_after.f T.f_is_change_after.fd ["before", "earliest", "value"] (sp_is_change_after_d K) := by
  refine T.f_is_change_after.F.ok sc_is_change_after (fun vs H Q E h => ?_) (fun cdv A outer s H vs Q E hr h => ?_)
  · obtain ⟨b, e, v, d, rfl, _⟩ := h
    rfl
  obtain ⟨b, e, v, d, rfl, hv, k⟩ := h
  refine ⟨(tSeq (tIfS (tNot (tB (tCall (sp_is_tuple_of_d K) [] E0 (tCons (tC (.int 2)) (tCons (tVar 2) tNil))))) (tRet (tC (.bl false))) tNext) (tSeq (tAsg (tVar 2) (gTup K 2 (gCons (gName 3) (gCons (gName 4) gNil)))) (tSeq (tIfS (tNot (tB (tCall (sp_is_between_d K) [] E0 (tCons (tVar 3) (tCons (tVar 1) (tCons (tC (.int 1000)) tNil)))))) (tRet (tC (.bl false))) tNext) (tSeq (tIfS (tNot (tB (tCall (sp_is_between_d K) [] E0 (tCons (tVar 4) (tCons (tUn (rU fun i => .int (-i)) (tC (.int 15))) (tCons (tC (.int 15)) tNil)))))) (tRet (tC (.bl false))) tNext) (tRet (tChain (rI0 fun i j => .bl (decide (i ≤ j))) (rI0 fun i j => .bl (decide (i ≤ j))) (tC (.int 1)) (tCB r_abs (tCons (tOp (rI0 fun i j => .int (i - j)) (tVar 4) (tVar 0)) tNil)) (tC (.int 3)))))))),
    PSs.nox (pss_cons (ps_if (pt_not (pt_val (pe_call (ok_is_tuple_of_d T) (hr.mono (by decide)) (by rfl) T.f_is_tuple_of.g T.f_is_tuple_of.F.kp T.f_is_tuple_of.b .nil pass0 (pa_cons pe_int (pa_cons (pv 2) pa_nil))))) (pss_one (ps_ret pe_bl)) pss_nil) (pss_cons (ps_asg (pv 2) (pg_tup rfl (pgs_cons (pg_name (i := 3) sc_is_change_after.nd rfl (Or.inl rfl)) (pgs_cons (pg_name (i := 4) sc_is_change_after.nd rfl (Or.inl rfl)) pgs_nil)))) (pss_cons (ps_if (pt_not (pt_val (pe_call (ok_is_between_d T) (hr.mono (by decide)) (by rfl) T.f_is_between.g T.f_is_between.F.kp T.f_is_between.b .nil pass0 (pa_cons (pv 3) (pa_cons (pv 1) (pa_cons (pe_glob (by rfl) T.c_MOST_CHANGE_INSTANT ⟨_, rfl⟩) pa_nil)))))) (pss_one (ps_ret pe_bl)) pss_nil) (pss_cons (ps_if (pt_not (pt_val (pe_call (ok_is_between_d T) (hr.mono (by decide)) (by rfl) T.f_is_between.g T.f_is_between.F.kp T.f_is_between.b .nil pass0 (pa_cons (pv 4) (pa_cons (pe_un un_neg (pe_glob (by rfl) T.c_MOST_LATER_OFFSET ⟨_, rfl⟩)) (pa_cons (pe_glob (by rfl) T.c_MOST_LATER_OFFSET ⟨_, rfl⟩) pa_nil)))))) (pss_one (ps_ret pe_bl)) pss_nil) (pss_one (ps_ret (pe_chain op_le op_le pe_int (pe_callB call_abs (by rfl) T.z_abs (by decide +kernel) (pa_cons (pe_op op_sub (pv 4) (pv 0)) pa_nil)) (pe_glob (by rfl) T.c_MOST_STEP ⟨_, rfl⟩)))))))), ?_⟩
  walk_at "gg"
  refine ⟨2, v, d, rfl, hv, ?_⟩
  cases c0 : tupN d 2 with
  | false =>
    rw [okCD_not c0] at k
    walk_at "gg"
    exact k
  | true =>
    obtain ⟨a, x, y, p, q, rfl, rfl, ha, hx, hy⟩ := dav_two hv c0
    rw [okCD_pair] at k
    walk_at "gg"
    refine ⟨x, p, _, _, rfl, hx, ?_⟩
    cases c1 : betD p e 1000 with
    | false =>
      rw [c1] at k
      walk_at "gg"
      exact k
    | true =>
      rw [c1] at k
      walk_at "gg"
      refine ⟨y, q, _, _, rfl, hy, ?_⟩
      cases c2 : betD q (-15) 15 with
      | false =>
        rw [c2] at k
        walk_at "gg"
        exact k
      | true =>
        rw [c2] at k
        obtain ⟨o, rfl, _, _⟩ := bet_int c2
        cases dav_int hy
        walk_at "gg"
        have k : Q (.bl (decide (1 ≤ (o - b).natAbs ∧ (o - b).natAbs ≤ 3))) H := k
        refine if_d (fun c3 => ?_) (fun c3 => ?_)
        · walk_at "gg"
          rw [show decide ((if o - b < 0 then -(o - b) else o - b) ≤ 3) = decide (1 ≤ (o - b).natAbs ∧ (o - b).natAbs ≤ 3) from decide_eq_decide.mpr (by split at c3 <;> split <;> omega)]
          exact k
        · rw [show (decide (1 ≤ (o - b).natAbs ∧ (o - b).natAbs ≤ 3)) = false from decide_eq_false (by split at c3 <;> omega)] at k
          exact k
theorem ok_are_changes_after_d (T : Txt w K mg) : FnOk P w K mg base CX0 3 T.f_are_changes_after.f T.f_are_changes_after.fd ["offset", "changes"] (sp_are_changes_after_d K) := by
  refine T.f_are_changes_after.F.ok sc_are_changes_after (fun vs H Q E h => ?_) (fun cdv A outer s H vs Q E hr h => ?_)
  · obtain ⟨o, a, xs, ds, rfl, _⟩ := h
    rfl
  obtain ⟨o, a, xs, ds, rfl, ha, hp, k⟩ := h
  refine ⟨(tSeq (tAsg (tUn (rU fun i => .int (-i)) (tC (.int 1000))) (gName 2)) (tSeq (tFor (iTup K (tVar 1)) (gName 3) (tSeq (tIfS (tNot (tB (tCall (sp_is_change_after_d K) [] E0 (tCons (tVar 0) (tCons (tVar 2) (tCons (tVar 3) tNil)))))) (tRet (tC (.bl false))) tNext) (tSeq (tAsg (tVar 3) (gTup K 2 (gCons (gName 4) (gCons (gName 0) gNil)))) (tAsg (tOp (rI0 fun i j => .int (i + j)) (tVar 4) (tC (.int 12))) (gName 2))))) (tRet (tC (.bl true))))),
    PSs.nox (pss_cons (ps_set (i := 2) sc_are_changes_after.nd rfl (Or.inl rfl) (pe_un un_neg (pe_glob (by rfl) T.c_MOST_CHANGE_INSTANT ⟨_, rfl⟩))) (pss_cons (ps_for PassesOwn.never rfl (pi_tup (pv 1)) (pg_name (i := 3) sc_are_changes_after.nd rfl (Or.inl rfl)) (pss_cons (ps_if (pt_not (pt_val (pe_call (ok_is_change_after_d T) (hr.mono (by decide)) (by rfl) T.f_is_change_after.g T.f_is_change_after.F.kp T.f_is_change_after.b .nil pass0 (pa_cons (pv 0) (pa_cons (pv 2) (pa_cons (pv 3) pa_nil)))))) (pss_one (ps_ret pe_bl)) pss_nil) (pss_cons (ps_asg (pv 3) (pg_tup rfl (pgs_cons (pg_name (i := 4) sc_are_changes_after.nd rfl (Or.inl rfl)) (pgs_cons (pg_name (i := 0) sc_are_changes_after.nd rfl (Or.inl rfl)) pgs_nil)))) (pss_one (ps_set (i := 2) sc_are_changes_after.nd rfl (Or.inl rfl) (pe_op op_add (pv 4) (pe_glob (by rfl) T.c_LEAST_DISTANCE ⟨_, rfl⟩))))))) (pss_one (ps_ret pe_bl)))), ?_⟩
  walk_at "gg"
  refine g_forT (F := DaV K) ha hp (fun l σ' H' => H' = H ∧ ∃ o' e' c0 i0, okGoD o' e' l = okGoD o (-1000) ds ∧ σ' = [some (.int o'), some (.ref a), some (.int e'), c0, i0])
    ⟨rfl, _, _, _, _, rfl, rfl⟩ (fun _ _ _ q => by rw [q.1]; exact ⟨ha, fun _ _ h => h⟩) ?_ ?_
  · rintro d l x σ' H' ⟨rfl, o', e', c0, i0, q, rfl⟩ hv
    rw [okGoD_cons] at q
    walk_at "gg"
    refine ⟨_, _, _, d, rfl, hv, ?_⟩
    walk_at "gg"
    cases c1 : okCD o' e' d with
    | true =>
      rw [c1] at q
      obtain ⟨i, oo, rfl, _⟩ := okCD_of c1
      obtain ⟨a2, x2, y2, p2, q2, rfl, e2, ha2, hx2, hy2⟩ := dav_two hv rfl
      cases e2
      cases dav_int hx2
      cases dav_int hy2
      walk_at "gg"
      exact ⟨rfl, _, _, _, _, q, rfl⟩
    | false =>
      rw [c1] at q
      walk_at "gg"
      rw [← q] at k
      exact k
  · rintro σ' H' ⟨rfl, o', e', c0, i0, q, rfl⟩
    walk_at "gg"
    rw [← q] at k
    exact k
theorem ok_is_zone_d (T : Txt w K mg) : FnOk P w K mg base CX0 4 T.f_is_zone.f T.f_is_zone.fd ["value"] (sp_is_zone_d K) := by
  refine T.f_is_zone.F.ok sc_is_zone (fun vs H Q E h => ?_) (fun cdv A outer s H vs Q E hr h => ?_)
  · obtain ⟨v, d, rfl, _⟩ := h
    rfl
  obtain ⟨v, d, rfl, hv, k⟩ := h
  refine ⟨(tSeq (tIfS (tNot (tB (tCall (sp_is_tuple_of_d K) [] E0 (tCons (tC (.int 2)) (tCons (tVar 0) tNil))))) (tRet (tC (.bl false))) tNext) (tSeq (tAsg (tVar 0) (gTup K 2 (gCons (gName 1) (gCons (gName 2) gNil)))) (tSeq (tIfS (tNot (tB (tCall (sp_is_between_d K) [] E0 (tCons (tVar 1) (tCons (tUn (rU fun i => .int (-i)) (tC (.int 12))) (tCons (tC (.int 12)) tNil)))))) (tRet (tC (.bl false))) tNext) (tSeq (tIfS (tOr (tNot (tB (tCB (rIsi K) (tCons (tVar 2) (tCons (tC (.ty "tuple")) tNil))))) (tTest (tOp (rI0 fun i j => .bl (decide (j < i))) (tCB (Evl.rLenS K) (tCons (tVar 2) tNil)) (tC (.int 8))))) (tRet (tC (.bl false))) tNext) (tRet (tCall (sp_are_changes_after_d K) [] E0 (tCons (tVar 1) (tCons (tVar 2) tNil)))))))),
    PSs.nox (pss_cons (ps_if (pt_not (pt_val (pe_call (ok_is_tuple_of_d T) (hr.mono (by decide)) (by rfl) T.f_is_tuple_of.g T.f_is_tuple_of.F.kp T.f_is_tuple_of.b .nil pass0 (pa_cons pe_int (pa_cons (pv 0) pa_nil))))) (pss_one (ps_ret pe_bl)) pss_nil) (pss_cons (ps_asg (pv 0) (pg_tup rfl (pgs_cons (pg_name (i := 1) sc_is_zone.nd rfl (Or.inl rfl)) (pgs_cons (pg_name (i := 2) sc_is_zone.nd rfl (Or.inl rfl)) pgs_nil)))) (pss_cons (ps_if (pt_not (pt_val (pe_call (ok_is_between_d T) (hr.mono (by decide)) (by rfl) T.f_is_between.g T.f_is_between.F.kp T.f_is_between.b .nil pass0 (pa_cons (pv 1) (pa_cons (pe_un un_neg (pe_glob (by rfl) T.c_MOST_FIRST_OFFSET ⟨_, rfl⟩)) (pa_cons (pe_glob (by rfl) T.c_MOST_FIRST_OFFSET ⟨_, rfl⟩) pa_nil)))))) (pss_one (ps_ret pe_bl)) pss_nil) (pss_cons (ps_if (PW.pt (pw_or (pt_not (pt_val (pe_callB call_isi (by rfl) T.z_isinstance (by decide +kernel) (pa_cons (pv 2) (pa_cons (pe_bltn (by rfl) T.z_tuple (by decide +kernel) rfl) pa_nil))))) (pw_or1 (pt_cmpR op_gt (pe_callB call_len_seq (by rfl) T.z_len (by decide +kernel) (pa_cons (pv 2) pa_nil)) (pe_glob (by rfl) T.c_MOST_CHANGES ⟨_, rfl⟩) (nomark _))))) (pss_one (ps_ret pe_bl)) pss_nil) (pss_one (ps_ret (pe_call (ok_are_changes_after_d T) (hr.mono (by decide)) (by rfl) T.f_are_changes_after.g T.f_are_changes_after.F.kp T.f_are_changes_after.b .nil pass0 (pa_cons (pv 1) (pa_cons (pv 2) pa_nil))))))))), ?_⟩
  walk_at "gg"
  refine ⟨2, v, d, rfl, hv, ?_⟩
  cases c0 : tupN d 2 with
  | false =>
    rw [okZD_not c0] at k
    walk_at "gg"
    exact k
  | true =>
    obtain ⟨a, x, y, p, q, rfl, rfl, ha, hx, hy⟩ := dav_two hv c0
    walk_at "gg"
    refine ⟨x, p, _, _, rfl, hx, ?_⟩
    cases c1 : betD p (-12) 12 with
    | false =>
      have e : okZD (.tuple [p, q]) = false := by
        unfold okZD
        split
        next o cs h =>
          injection h with h
          injection h with h1 h2
          subst h1
          rw [show decide (-12 ≤ o ∧ o ≤ 12) = false from c1]
          rfl
        · rfl
      rw [e] at k
      walk_at "gg"
      exact k
    | true =>
      obtain ⟨o, rfl, _, _⟩ := bet_int c1
      cases dav_int hx
      walk_at "gg"
      cases hy with
      | tup hb l ih =>
        rename_i b ys ds
        refine g_isi (ty_tup hb) (by decide +kernel : kitB "tuple" "tuple" = some true) ?_
        walk_at "gg"
        refine g_lenT hb ?_
        walk_at "gg"
        have k : Q (.bl (decide (-12 ≤ o ∧ o ≤ 12) && (decide (ds.length ≤ 8) && okGoD o (-1000) ds))) H := k
        rw [show decide (-12 ≤ o ∧ o ≤ 12) = true from c1, Bool.true_and] at k
        rw [l]
        refine if_d (fun c2 => ?_) (fun c2 => ?_)
        · walk_at "gg"
          rw [decide_eq_false (by omega : ¬ ds.length ≤ 8)] at k
          exact k
        · walk_at "gg"
          rw [decide_eq_true (by omega : ds.length ≤ 8)] at k
          exact ⟨_, _, _, ds, rfl, hb, pd_of l ih, k⟩
      | non =>
        refine g_isi ty_non (by decide +kernel : kitB "NoneType" "tuple" = some false) ?_
        walk_at "gg"
        exact k
      | bl b =>
        refine g_isi ty_bl (by decide +kernel : kitB "bool" "tuple" = some false) ?_
        walk_at "gg"
        exact k
      | int i =>
        refine g_isi ty_int (by decide +kernel : kitB "int" "tuple" = some false) ?_
        walk_at "gg"
        exact k
      | str x =>
        refine g_isi ty_str (by decide +kernel : kitB "str" "tuple" = some false) ?_
        walk_at "gg"
        exact k
      | lst q =>
        refine g_isi (ty_lst q) (by decide +kernel : kitB "list" "tuple" = some false) ?_
        walk_at "gg"
        exact k
end
local macro_rules | `(tactic| walk_at "m") => `(tactic| first
  | with_reducible refine g_m1 ?_
  | with_reducible refine g_isS ?_
  | with_reducible refine g_lcStr ?_
  | with_reducible refine g_join ?_
  | with_reducible refine g_js ?_
  | with_reducible refine g_jsN ?_
  | with_reducible refine g_fmt ?_
  | with_reducible refine g_callLam ?_
  | with_reducible refine g_revT ?_)

/-! ### draws -/
def sp_law_taken (K : PySem.W.Frag) : Sp := fun vs H Q _ => ∃ (ρ : Rw) (n : Int), vs = [.ref ρ.1, .int n] ∧ Row K H ρ ∧ 0 < n ∧ n ≤ 1000000 ∧
  ∀ v H', 0 ≤ v → v < n → Fr ρ.1 H H' → Row K H' ρ → Q (.int v) H'
def sp_law_pick (K : PySem.W.Frag) : Sp := fun vs H Q _ => ∃ (ρ : Rw) (k : Addr) (xs : List V), vs = [.ref ρ.1, .ref k] ∧ Row K H ρ ∧ H k = some (.lst xs) ∧ k ≠ ρ.1 ∧ 0 < xs.length ∧ xs.length ≤ 1000 ∧
  ∀ x H', x ∈ xs → Fr ρ.1 H H' → Row K H' ρ → Q x H'
section
variable {P : Program} {w : World} {K : PySem.W.Frag} {mg : Str → Option Value} {base : Heap}
theorem ok_law_taken (T : Txt w K mg) : FnOk P w K mg base CX0 1 T.f_law_taken.f T.f_law_taken.fd ["row", "many"] (sp_law_taken K) := by
  refine T.f_law_taken.F.ok sc_law_taken (fun vs H Q E h => ?_) (fun cdv A outer s H vs Q E hr h => ?_)
  · obtain ⟨ρ, n, rfl, _⟩ := h
    rfl
  obtain ⟨ρ, n, rfl, ⟨i, sd, t, hl, hs, b1, b2, b3⟩, n1, n2, k⟩ := h
  have hm := fun (v : Int) => And.intro (Int.emod_nonneg v (by omega : n ≠ 0)) (Int.emod_lt_of_pos v n1)
  have m31 := fun (v : Int) => And.intro (Int.emod_nonneg v (by omega : (2147483647 : Int) ≠ 0)) (Int.emod_lt_of_pos v (by omega : (0 : Int) < 2147483647))
  refine ⟨(tSeq (tIfS (tTest (tOp (rI0 fun i j => .bl (decide (j < i))) (tOp (rIxL K) (tVar 0) (tC (.int 3))) (tC (.int 0)))) (tSeq (tAsg (tOp (rI (fun _ j => 0 < j) fun i j => .int (i % j)) (tCB r_int (tCons (tOp (rIxL K) (tVar 0) (tC (.int 3))) tNil)) (tVar 1)) (gName 2)) (tSeq (tAsg (tOp (rI CDivW fun i j => .int (i / j)) (tOp (rIxL K) (tVar 0) (tC (.int 3))) (tVar 1)) (gSub (tVar 0) (tC (.int 3)) rSetL)) (tRet (tVar 2)))) tNext) (tSeq (tAsg (tOp (rI0 fun i j => .int (i + j)) (tOp (rIxL K) (tVar 0) (tC (.int 1))) (tC (.int 1))) (gSub (tVar 0) (tC (.int 1)) rSetL)) (tSeq (tIfS (tTest (tOp (rI0 fun i j => .bl (decide (j < i))) (tOp (rIxL K) (tVar 0) (tC (.int 1))) (tCB (Evl.rLenS K) (tCons (tOp (rIxL K) (tVar 0) (tC (.int 0))) tNil)))) (tSeq (tAsg (tOp (rI (fun _ j => 0 < j) fun i j => .int (i % j)) (tCB r_int (tCons (tOp (rI0 fun i j => .int (i + j)) (tOp (rI CMul fun i j => .int (i * j)) (tOp (rIxL K) (tVar 0) (tC (.int 2))) (tC (.int 48271))) (tC (.int 11))) tNil)) (tC (.int 2147483647))) (gSub (tVar 0) (tC (.int 2)) rSetL)) (tRet (tOp (rI (fun _ j => 0 < j) fun i j => .int (i % j)) (tCB r_int (tCons (tOp (rI CDivW fun i j => .int (i / j)) (tOp (rIxL K) (tVar 0) (tC (.int 2))) (tC (.int 7))) tNil)) (tVar 1)))) tNext) (tSeq (tAsg (tOp (rIxL K) (tOp (rIxL K) (tVar 0) (tC (.int 0))) (tOp (rI0 fun i j => .int (i - j)) (tOp (rIxL K) (tVar 0) (tC (.int 1))) (tC (.int 1)))) (gName 3)) (tSeq (tAsg (tOp (rI (fun _ j => 0 < j) fun i j => .int (i % j)) (tCB r_int (tCons (tOp (rI0 fun i j => .int (i + j)) (tOp (rI0 fun i j => .int (i + j)) (tOp (rI CMul fun i j => .int (i * j)) (tOp (rIxL K) (tVar 0) (tC (.int 2))) (tC (.int 48271))) (tVar 3)) (tC (.int 11))) tNil)) (tC (.int 2147483647))) (gSub (tVar 0) (tC (.int 2)) rSetL)) (tSeq (tIfS (tTest (tOp (rI0 fun i j => .bl (decide (j ≤ i))) (tVar 3) (tOp (rI CPow fun i j => .int (i ^ j.toNat)) (tC (.int 10)) (tC (.int 18))))) (tAsg (tOp (rI CDivW fun i j => .int (i / j)) (tVar 3) (tVar 1)) (gSub (tVar 0) (tC (.int 3)) rSetL)) tNext) (tRet (tOp (rI (fun _ j => 0 < j) fun i j => .int (i % j)) (tCB r_int (tCons (tVar 3) tNil)) (tVar 1))))))))),
    PSs.nox (pss_cons (ps_if (pt_cmpR op_gt (pe_ix ix_list (pv 0) pe_int (fun _ _ => rfl)) pe_int (nomark _)) (pss_cons (ps_set (i := 2) sc_law_taken.nd rfl (Or.inl rfl) (pe_op op_mod (pe_callTy call_int1 (by rfl) T.z_int (by decide +kernel) (pa_cons (pe_ix ix_list (pv 0) pe_int (fun _ _ => rfl)) pa_nil)) (pv 1))) (pss_cons (ps_asg (pe_op op_fdivW (pe_ix ix_list (pv 0) pe_int (fun _ _ => rfl)) (pv 1)) (pg_sub (pv 0) pe_int set_list)) (pss_one (ps_ret (pv 2))))) pss_nil) (pss_cons (ps_asg (pe_op op_add (pe_ix ix_list (pv 0) pe_int (fun _ _ => rfl)) pe_int) (pg_sub (pv 0) pe_int set_list)) (pss_cons (ps_if (pt_cmpR op_gt (pe_ix ix_list (pv 0) pe_int (fun _ _ => rfl)) (pe_callB call_len_seq (by rfl) T.z_len (by decide +kernel) (pa_cons (pe_ix ix_list (pv 0) pe_int (fun _ _ => rfl)) pa_nil)) (nomark _)) (pss_cons (ps_asg (pe_op op_mod (pe_callTy call_int1 (by rfl) T.z_int (by decide +kernel) (pa_cons (pe_op op_add (pe_op op_mul (pe_ix ix_list (pv 0) pe_int (fun _ _ => rfl)) pe_int) pe_int) pa_nil)) pe_int) (pg_sub (pv 0) pe_int set_list)) (pss_one (ps_ret (pe_op op_mod (pe_callTy call_int1 (by rfl) T.z_int (by decide +kernel) (pa_cons (pe_op op_fdivW (pe_ix ix_list (pv 0) pe_int (fun _ _ => rfl)) pe_int) pa_nil)) (pv 1))))) pss_nil) (pss_cons (ps_set (i := 3) sc_law_taken.nd rfl (Or.inl rfl) (pe_ix ix_list (pe_ix ix_list (pv 0) pe_int (fun _ _ => rfl)) (pe_op op_sub (pe_ix ix_list (pv 0) pe_int (fun _ _ => rfl)) pe_int) (fun _ _ => rfl))) (pss_cons (ps_asg (pe_op op_mod (pe_callTy call_int1 (by rfl) T.z_int (by decide +kernel) (pa_cons (pe_op op_add (pe_op op_add (pe_op op_mul (pe_ix ix_list (pv 0) pe_int (fun _ _ => rfl)) pe_int) (pv 3)) pe_int) pa_nil)) pe_int) (pg_sub (pv 0) pe_int set_list)) (pss_cons (ps_if (pt_cmpR op_ge (pv 3) (pe_op op_pow pe_int pe_int) (nomark _)) (pss_one (ps_asg (pe_op op_fdivW (pv 3) (pv 1)) (pg_sub (pv 0) pe_int set_list))) pss_nil) (pss_one (ps_ret (pe_op op_mod (pe_callTy call_int1 (by rfl) T.z_int (by decide +kernel) (pa_cons (pv 3) pa_nil)) (pv 1)))))))))), ?_⟩
  walk_at "gg"
  refine g_ixL (SqL.of hl) rfl ?_
  walk_at "gg"
  refine if_d (fun c => ?_) (fun c => ?_)
  · walk_at "gg"
    refine g_ixL (SqL.of hl) rfl ?_
    walk_at "gg"
    refine g_ixL (SqL.of hl) rfl ?_
    walk_at "gg"
    refine g_setL hl rfl fun H1 e1 h1 => ?_
    walk_at "gg"
    exact k _ H1 (hm _).1 (hm _).2 e1 ⟨i, sd, _, h1, hs.fr e1, b1, b2, b3⟩
  · walk_at "gg"
    refine g_ixL (SqL.of hl) rfl ?_
    walk_at "gg"
    refine g_setL hl rfl fun H1 e1 h1 => ?_
    walk_at "gg"
    refine g_ixL (SqL.of h1) rfl ?_
    walk_at "gg"
    refine g_ixL (SqL.of h1) rfl ?_
    walk_at "gg"
    refine g_lenL (hs H1 e1) ?_
    walk_at "gg"
    rw [List.length_map]
    refine if_d (fun c2 => ?_) (fun c2 => ?_)
    · walk_at "gg"
      refine g_ixL (SqL.of h1) rfl ?_
      walk_at "gg"
      refine g_setL h1 rfl fun H2 e2 h2 => ?_
      walk_at "gg"
      refine g_ixL (SqL.of h2) rfl ?_
      walk_at "gg"
      have z := m31 (sd * 48271 + 11)
      exact k _ H2 (hm _).1 (hm _).2 (e1.trans e2) ⟨_, _, _, h2, hs.fr (e1.trans e2), by omega, z.1, by omega⟩
    · walk_at "gg"
      refine g_ixL (SqL.of h1) rfl ?_
      walk_at "gg"
      refine g_ixL (SqL.of h1) rfl ?_
      walk_at "gg"
      have lt : i.toNat < ρ.2.2.length := by omega
      refine g_ixL (hs H1 e1) (v := .int ρ.2.2[i.toNat]) (atI_of (by omega) ?_) ?_
      · rw [List.getElem?_map, show i + 1 - 1 = i by omega, List.getElem?_eq_getElem lt]
        rfl
      generalize ρ.2.2[i.toNat] = cell
      walk_at "gg"
      refine g_ixL (SqL.of h1) rfl ?_
      walk_at "gg"
      refine g_setL h1 rfl fun H2 e2 h2 => ?_
      walk_at "gg"
      have z := m31 (sd * 48271 + cell + 11)
      refine if_d (fun c3 => ?_) (fun c3 => ?_)
      · walk_at "gg"
        refine g_setL h2 rfl fun H3 e3 h3 => ?_
        walk_at "gg"
        exact k _ H3 (hm _).1 (hm _).2 ((e1.trans e2).trans e3) ⟨_, _, _, h3, hs.fr ((e1.trans e2).trans e3), by omega, z.1, by omega⟩
      · walk_at "gg"
        exact k _ H2 (hm _).1 (hm _).2 (e1.trans e2) ⟨_, _, _, h2, hs.fr (e1.trans e2), by omega, z.1, by omega⟩
theorem ok_law_pick (T : Txt w K mg) : FnOk P w K mg base CX0 2 T.f_law_pick.f T.f_law_pick.fd ["row", "kinds"] (sp_law_pick K) := by
  refine T.f_law_pick.F.ok sc_law_pick (fun vs H Q E h => ?_) (fun cdv A outer s H vs Q E hr h => ?_)
  · obtain ⟨ρ, kk, xs, rfl, _⟩ := h
    rfl
  obtain ⟨ρ, kk, xs, rfl, hR, hk, ne, l1, l2, k⟩ := h
  refine ⟨(tRet (tOp (rIxL K) (tVar 1) (tCall (sp_law_taken K) [] E0 (tCons (tVar 0) (tCons (tCB (Evl.rLenS K) (tCons (tVar 1) tNil)) tNil))))),
    PSs.nox (pss_one (ps_ret (pe_ix ix_list (pv 1) (pe_call (ok_law_taken T) (hr.mono (by decide)) (by rfl) T.f_law_taken.g T.f_law_taken.F.kp T.f_law_taken.b .nil pass0 (pa_cons (pv 0) (pa_cons (pe_callB call_len_seq (by rfl) T.z_len (by decide +kernel) (pa_cons (pv 1) pa_nil)) pa_nil))) (fun _ _ => rfl)))), ?_⟩
  walk_at "gg"
  refine g_lenL (SqL.of hk) ?_
  walk_at "gg"
  refine ⟨ρ, _, rfl, hR, by omega, by omega, fun v H1 v0 v1 e1 R1 => ?_⟩
  have lt : v.toNat < xs.length := by omega
  refine g_ixL (SqL.of (e1 _ _ ne hk)) (atI_of v0 (List.getElem?_eq_getElem lt)) ?_
  exact k _ H1 (List.getElem_mem lt) e1 R1
end
local macro_rules | `(tactic| walk_at "m") => `(tactic| first
  | with_reducible refine g_m1 ?_
  | with_reducible refine g_isS ?_
  | with_reducible refine g_lcStr ?_
  | with_reducible refine g_join ?_
  | with_reducible refine g_js ?_
  | with_reducible refine g_jsN ?_
  | with_reducible refine g_fmt ?_
  | with_reducible refine g_callLam ?_
  | with_reducible refine g_revT ?_)

/-! ### the mathematics of the law's own steps -/
theorem okGo_after : ∀ {b e : Int} {cs : List (Int × Int)}, okGo b e cs = true → ∀ p ∈ cs, e ≤ p.1
  | _, _, [], _, _, h => nomatch h
  | b, e, p :: r, h, q, hq => by
    rw [okGo_cons, Bool.and_eq_true] at h
    have h1 := h.1
    unfold okC at h1
    simp only [Bool.and_eq_true, decide_eq_true_eq] at h1
    rcases List.mem_cons.mp hq with rfl | hq
    · exact h1.1.1
    · have := okGo_after h.2 q hq
      omega
theorem off_filter (t : Int) : ∀ {b e : Int} {cs : List (Int × Int)} (cur : Int), okGo b e cs = true →
    offGo t cur cs = ((cs.filter fun p => decide (p.1 ≤ t)).map (·.2)).getLast?.getD cur
  | _, _, [], _, _ => rfl
  | b, e, p :: r, cur, h => by
    have h0 := h
    rw [okGo_cons, Bool.and_eq_true] at h
    unfold offGo
    split
    next c =>
      have em : (p :: r).filter (fun p => decide (p.1 ≤ t)) = [] := by
        rw [List.filter_eq_nil_iff]
        intro q hq
        rcases List.mem_cons.mp hq with rfl | hq
        · simp; omega
        · have := okGo_after h.2 q hq
          simp; omega
      rw [em]
      rfl
    next c =>
      have hp : decide (p.1 ≤ t) = true := decide_eq_true (by omega)
      rw [List.filter_cons, if_pos hp, List.map_cons, List.getLast?_cons, off_filter t p.2 h.2]
      rfl
theorem okGo_offs : ∀ {b e : Int} {cs : List (Int × Int)}, okGo b e cs = true → ∀ p ∈ cs, -15 ≤ p.2 ∧ p.2 ≤ 15 ∧ e ≤ p.1 ∧ p.1 ≤ 1000
  | _, _, [], _, _, h => nomatch h
  | b, e, p :: r, h, q, hq => by
    have h0 := okGo_after h q hq
    rw [okGo_cons, Bool.and_eq_true] at h
    have h1 := h.1
    unfold okC at h1
    simp only [Bool.and_eq_true, decide_eq_true_eq] at h1
    rcases List.mem_cons.mp hq with rfl | hq
    · omega
    · have := okGo_offs h.2 q hq
      omega
structure OkZ (z : Zone) : Prop where
  lo : -12 ≤ z.1
  hi : z.1 ≤ 12
  len : z.2.length ≤ 8
  go : okGo z.1 (-1000) z.2 = true
theorem OkZ.of {z : Zone} (h : okZ z = true) : OkZ z := by
  unfold okZ at h
  simp only [Bool.and_eq_true, decide_eq_true_eq] at h
  exact ⟨h.1.1, h.1.2, h.2.1, h.2.2⟩
theorem OkZ.offs {z : Zone} (h : OkZ z) (t : Int) : -15 ≤ off z t ∧ off z t ≤ 15 := by
  have m := offGo_mem t z.2 z.1
  have l := h.lo
  have u := h.hi
  unfold off
  rcases List.mem_cons.mp m with e | e
  · rw [e]; omega
  · obtain ⟨p, hp, q⟩ := List.mem_map.mp e
    rw [← q]
    have := okGo_offs h.go p hp
    omega
/-- the instants with a reading -/
def insts (z : Zone) (t : Int) : List Int := (irange (t - 16) 33).filter fun k => decide (k + off z k = t)
theorem insts_mem {z : Zone} (h : OkZ z) {t k : Int} : k ∈ insts z t ↔ k + off z k = t := by
  unfold insts
  rw [List.mem_filter, decide_eq_true_eq, irange_mem]
  have := h.offs k
  constructor
  · exact fun q => q.2
  · exact fun q => ⟨by omega, q⟩
theorem insts_rise (z : Zone) (t : Int) : (insts z t).Pairwise (· < ·) := (irange_rise _ _).filter _
/-! ### promises -/
def sp_law_alike (K : PySem.W.Frag) : Nat → Sp
  | 0 => fun _ _ _ _ => False
  | n + 1 => fun vs H Q _ => ∃ (x y : V) (d : PyData), vs = [x, y] ∧ Dp K H x d ∧ Dp K H y d ∧ fits n d = true ∧ ∀ H', Ex H H' → Q (.bl true) H'
def sp_law_offset (K : PySem.W.Frag) : Sp := fun vs H Q _ => ∃ (zv : V) (z : Zone) (t : Int), vs = [zv, .int t] ∧ ZV K H zv z ∧ OkZ z ∧ ∀ H', Ex H H' → Q (.int (off z t)) H'
def sp_law_instants (K : PySem.W.Frag) : Sp := fun vs H Q _ => ∃ (zv : V) (z : Zone) (t : Int), vs = [zv, .int t] ∧ ZV K H zv z ∧ OkZ z ∧ -1000000000 ≤ t ∧ t ≤ 1000000000 ∧
  ∀ p H', H p = none → Ex H H' → H' p = some (.lst ((insts z t).map V.int)) → Q (.ref p) H'
section
variable {P : Program} {w : World} {K : PySem.W.Frag} {mg : Str → Option Value} {base : Heap}
theorem ok_law_offset (T : Txt w K mg) : FnOk P w K mg base CX0 1 T.f_law_offset.f T.f_law_offset.fd ["zone", "instant"] (sp_law_offset K) := by
  refine T.f_law_offset.F.ok sc_law_offset (fun vs H Q E h => ?_) (fun cdv A outer s H vs Q E hr h => ?_)
  · obtain ⟨zv, z, t, rfl, _⟩ := h
    rfl
  obtain ⟨zv, z, t, rfl, ⟨a, c, rfl, ha, b, xs, rfl, hb, hp⟩, hz, k⟩ := h
  have hf := off_filter t z.1 hz.go
  refine ⟨(tSeq (tAsg (tLc (iTup K (tOp (rIxT K) (tVar 0) (tC (.int 1)))) (gTup K 2 (gCons (gName 3) (gCons (gName 4) gNil))) (tTest (tOp (rI0 fun i j => .bl (decide (i ≤ j))) (tVar 3) (tVar 1))) (tVar 4) [3, 4]) (gName 2)) (tRet (tIf (tTest (tOp (rNeD K) (tVar 2) (tLst tNil))) (tOp (rIxL K) (tVar 2) (tUn (rU fun i => .int (-i)) (tC (.int 1)))) (tOp (rIxT K) (tVar 0) (tC (.int 0)))))),
    PSs.nox (pss_cons (ps_setLc (i := 2) (own := [("at", 3), ("after", 4)]) rfl sc_law_offset.nd rfl rfl (sw_true rfl rfl rfl (by decide +kernel)) (pi_tup (pe_ix ix_tup (pv 0) pe_int (fun _ _ => rfl))) (blkOk_by (own := [("at", 3), ("after", 4)]) (N := ["zone", "instant", "some", "at", "after"]) (sc := defScope s_law_offset) (by decide +kernel)) (fun _ _ _ _ _ => (pg_tup rfl (pgs_cons (pg_name (i := 3) sc_law_offset.nd rfl (Or.inl rfl)) (pgs_cons (pg_name (i := 4) sc_law_offset.nd rfl (Or.inl rfl)) pgs_nil)))) (fun _ _ _ _ _ => (pts_one (pt_cmpR op_le (pv 3) (pv 1) (nomark _)))) (fun _ _ _ _ _ => (pv 4))) (pss_one (ps_ret (pe_ifExp (pt_cmpR (op_neD hr.units) (pv 2) (pe_lst pa_nil) (nomark _)) (pe_ix ix_list (pv 2) (pe_un un_neg pe_int) (fun _ _ => rfl)) (pe_ix ix_tup (pv 0) pe_int (fun _ _ => rfl)))))), ?_⟩
  walk_at "gg"
  refine g_lcT (F := PV K) hb hp (by have := hz.len; omega) (fun p => decide (p.1 ≤ t)) (fun p => .int p.2) (fun _ _ _ e h => h.tr (TrT.of e)) ?_ ?_
  · rintro p x H2 e2 ⟨y, rfl, hy⟩ R S hR hS
    walk_at "gg"
    refine ⟨rfl, ?_⟩
    walk_at "gg"
    refine if_d (fun c => ?_) (fun c => ?_)
    · walk_at "gg"
      exact hS (decide_eq_true c) _ (Evl.Ex.refl _)
    · exact hR (decide_eq_false c) _ (Evl.Ex.refl _)
  rintro l1 H1 n1 e1 h1
  have h1' : H1 l1 = some (.lst (((z.2.filter fun p => decide (p.1 ≤ t)).map (·.2)).map V.int)) := by
    rw [h1, List.map_map]
    rfl
  walk_at "gg"
  refine g_newL (by simp) fun l2 H2 n2 e2 h2 => ?_
  refine g_neNil (e2 _ _ h1') h2 ?_
  have k2 := k H2 (e1.trans e2)
  unfold off at k2
  rw [hf] at k2
  generalize (z.2.filter fun p => decide (p.1 ≤ t)).map (·.2) = ns at *
  walk_at "gg"
  cases hn : ns.getLast? with
  | none =>
    rw [List.getLast?_eq_none_iff] at hn
    subst hn
    walk_at "gg"
    exact k2
  | some v =>
    rw [hn] at k2
    have ne : ns.isEmpty = false := by cases ns with | nil => cases hn | cons _ _ => rfl
    rw [ne]
    walk_at "gg"
    refine g_ixL (SqL.of (e2 _ _ h1')) (atI_end (v := V.int v) ?_) k2
    rw [List.getLast?_map, hn]
    rfl
theorem ok_law_instants (T : Txt w K mg) : FnOk P w K mg base CX0 2 T.f_law_instants.f T.f_law_instants.fd ["zone", "reading"] (sp_law_instants K) := by
  refine T.f_law_instants.F.ok sc_law_instants (fun vs H Q E h => ?_) (fun cdv A outer s H vs Q E hr h => ?_)
  · obtain ⟨zv, z, t, rfl, _⟩ := h
    rfl
  obtain ⟨zv, z, t, rfl, hv, hz, b1, b2, k⟩ := h
  refine ⟨(tRet (tLc (iRng2 (tCons (tOp (rI0 fun i j => .int (i - j)) (tVar 1) (tC (.int 16))) (tCons (tOp (rI0 fun i j => .int (i + j)) (tVar 1) (tC (.int 17))) tNil))) (gName 2) (tTest (tOp rEq (tOp (rI0 fun i j => .int (i + j)) (tVar 2) (tCall (sp_law_offset K) [] E0 (tCons (tVar 0) (tCons (tVar 2) tNil)))) (tVar 1))) (tVar 2) [2])),
    PSs.nox (pss_one (ps_ret (pe_lc (own := [("each", 2)]) rfl sc_law_instants.nd (pi_range2 (by rfl) T.z_range (pa_cons (pe_op op_sub (pv 1) pe_int) (pa_cons (pe_op op_add (pv 1) pe_int) pa_nil))) (blkOk_by (own := [("each", 2)]) (N := ["zone", "reading", "each"]) (sc := defScope s_law_instants) (by decide +kernel)) (fun _ _ _ _ _ => (pg_name (i := 2) sc_law_instants.nd rfl (Or.inl rfl))) (fun _ _ _ _ _ => (pts_one (pt_cmpR op_eq (pe_op op_add (pv 2) (pe_call (ok_law_offset T) (hr.mono (by decide)) (by rfl) T.f_law_offset.g T.f_law_offset.F.kp T.f_law_offset.b .nil pass0 (pa_cons (pv 0) (pa_cons (pv 2) pa_nil)))) (pv 1) (nomark _)))) (fun _ _ _ _ _ => (pv 2))))), ?_⟩
  walk_at "gg"
  refine g_lcRng2 ?_
  walk_at "gg"
  refine g_lcR2 (by omega) (by omega) (by omega) (by omega) (fun k => decide (k + off z k = t)) (fun k => .int k) ?_ ?_
  · rintro i H2 e2 _ _ R S hR hS
    walk_at "gg"
    refine ⟨rfl, ?_⟩
    walk_at "gg"
    refine ⟨_, _, _, rfl, hv.tr (TrT.of e2), hz, fun H3 e3 => ?_⟩
    walk_at "gg"
    refine if_d (fun c => ?_) (fun c => ?_)
    · walk_at "gg"
      exact hS (decide_eq_true c) _ e3
    · exact hR (decide_eq_false c) _ e3
  intro D H1 n1 e1 h1
  refine k D H1 n1 e1 ?_
  rw [h1, show (t + 17 - (t - 16)).toNat = 33 by omega]
  rfl
end
local macro_rules | `(tactic| walk_at "m") => `(tactic| first
  | with_reducible refine g_m1 ?_
  | with_reducible refine g_isS ?_
  | with_reducible refine g_lcStr ?_
  | with_reducible refine g_join ?_
  | with_reducible refine g_js ?_
  | with_reducible refine g_jsN ?_
  | with_reducible refine g_fmt ?_
  | with_reducible refine g_callLam ?_
  | with_reducible refine g_revT ?_)

/-! ### the drawn zone's mathematics -/
def lastO : Int → List (Int × Int) → Int
  | b, [] => b
  | _, p :: r => lastO p.2 r
def lastE : Int → List (Int × Int) → Int
  | e, [] => e
  | _, p :: r => lastE (p.1 + 12) r
theorem okGo_app (p : Int × Int) : ∀ (ps : List (Int × Int)) (b e : Int), okGo b e (ps ++ [p]) = (okGo b e ps && okC (lastO b ps) (lastE e ps) p)
  | [], b, e => by
    show okGo b e [p] = (true && okC b e p)
    rw [okGo_cons, Bool.true_and]
    show (okC b e p && true) = _
    rw [Bool.and_true]
  | q :: r, b, e => by
    show okGo b e (q :: (r ++ [p])) = _
    rw [okGo_cons, okGo_cons, okGo_app p r, Bool.and_assoc]
    rfl
def kstep (b : Int) (f : Bool × Bool) (a : Int) : Bool × Bool := if a > b then (true, f.2) else (f.1, true)
theorem kindGo_app (p : Int × Int) : ∀ (ps : List (Int × Int)) (b : Int) (s r : Bool), kindGo b s r (ps ++ [p]) = kstep (lastO b ps) (kindGo b s r ps) p.2
  | [], b, s, r => rfl
  | q :: l, b, s, r => by
    show kindGo b s r (q :: (l ++ [p])) = _
    rw [kindGo_cons, kindGo_cons]
    split
    · exact kindGo_app p l _ _ _
    · exact kindGo_app p l _ _ _
theorem lastO_app (p : Int × Int) : ∀ (ps : List (Int × Int)) (b : Int), lastO b (ps ++ [p]) = p.2
  | [], _ => rfl
  | q :: r, b => lastO_app p r q.2
theorem lastE_app (p : Int × Int) : ∀ (ps : List (Int × Int)) (e : Int), lastE e (ps ++ [p]) = p.1 + 12
  | [], _ => rfl
  | q :: r, b => lastE_app p r (q.1 + 12)
/-- the flags behind i changes -/
def flagsOf (kind : Str) (i : Nat) : Bool × Bool := match i with
  | 0 => (false, false)
  | 1 => if kind = "repeats" then (false, true) else (true, false)
  | _ => if kind = "skips" then (true, false) else if kind = "repeats" then (false, true) else (true, true)
structure ZInv (kind : Str) (first : Int) (i : Nat) (ps : List (Int × Int)) (o at' : Int) : Prop where
  len : ps.length = i
  ok : okGo first (-1000) ps = true
  ho : lastO first ps = o
  he : lastE (-1000) ps ≤ at'
  a1 : -30 ≤ at'
  a2 : at' ≤ -22 + 32 * i
  o1 : -3 - 3 * i ≤ o
  o2 : o ≤ 3 + 3 * i
  fl : kindGo first false false ps = flagsOf kind i
/-- the sign of a change -/
structure Sgn (kind : Str) (i : Nat) (s : Int) : Prop where
  one : s = 1 ∨ s = -1
  sk : kind = "skips" → s = 1
  re : kind = "repeats" → s = -1
  b0 : kind ≠ "skips" → kind ≠ "repeats" → i = 0 → s = 1
  b1 : kind ≠ "skips" → kind ≠ "repeats" → i = 1 → s = -1
theorem ne_sr : ¬ (("skips" : Str) = "repeats") := by decide +kernel
theorem ne_rs : ¬ (("repeats" : Str) = "skips") := by decide +kernel
theorem ZInv.step {kind : Str} {first : Int} {i : Nat} {ps : List (Int × Int)} {o at' : Int} (h : ZInv kind first i ps o at') {st s g : Int} (i3 : i ≤ 3) (h1 : 1 ≤ st) (h2 : st ≤ 3) (hs : Sgn kind i s) (g0 : 0 ≤ g) (g1 : g ≤ 19) :
    ZInv kind first (i + 1) (ps ++ [(at', o + s * st)]) (o + s * st) (at' + 12 + g) := by
  have a1 := h.a1
  have a2 := h.a2
  have o1 := h.o1
  have o2 := h.o2
  have e := h.he
  have hm : s * st = st ∨ s * st = -st := by
    rcases hs.one with q | q <;> rw [q] <;> omega
  refine ⟨by rw [List.length_append, h.len] <;> rfl, ?_, lastO_app _ _ _, ?_, by omega, by omega, by omega, by omega, ?_⟩
  · rw [okGo_app, h.ok, h.ho]
    unfold okC
    simp only [Bool.true_and, Bool.and_eq_true, decide_eq_true_eq]
    omega
  · rw [lastE_app]
    show at' + 12 ≤ _
    omega
  · rw [kindGo_app, h.ho, h.fl]
    show kstep o (flagsOf kind i) (o + s * st) = flagsOf kind (i + 1)
    unfold kstep
    by_cases k1 : kind = "skips"
    · have q := hs.sk k1
      rw [if_pos (by rw [q]; omega)]
      subst k1
      match i with
      | 0 => unfold flagsOf; simp [ne_sr]
      | 1 => unfold flagsOf; simp [ne_sr]
      | i + 2 => unfold flagsOf; simp
    · by_cases k2 : kind = "repeats"
      · have q := hs.re k2
        rw [if_neg (by rw [q]; omega)]
        subst k2
        match i with
        | 0 => unfold flagsOf; simp
        | 1 => unfold flagsOf; simp [ne_rs]
        | i + 2 => unfold flagsOf; simp [ne_rs]
      · match i with
        | 0 =>
          have q := hs.b0 k1 k2 rfl
          rw [if_pos (by rw [q]; omega)]
          unfold flagsOf
          simp [k2]
        | 1 =>
          have q := hs.b1 k1 k2 rfl
          rw [if_neg (by rw [q]; omega)]
          unfold flagsOf
          simp [k1, k2]
        | i + 2 =>
          unfold flagsOf
          simp [k1, k2]
structure GoodZ (kind : Str) (z : Zone) : Prop where
  ok : okZ z = true
  kind : kindOf z = kind
  few : z.2.length ≤ 4
theorem ZInv.good {kind : Str} {first : Int} {i : Nat} {ps : List (Int × Int)} {o at' : Int} (h : ZInv kind first i ps o at') (f1 : -3 ≤ first) (f2 : first ≤ 3) (i4 : i ≤ 4)
    (hk : (kind = "fixed" ∧ i = 0) ∨ ((kind = "skips" ∨ kind = "repeats") ∧ 1 ≤ i) ∨ (kind = "both" ∧ 2 ≤ i)) : GoodZ kind (first, ps) := by
  refine ⟨?_, ?_, by show ps.length ≤ 4; rw [h.len]; exact i4⟩
  · unfold okZ
    simp only [Bool.and_eq_true, decide_eq_true_eq]
    exact ⟨by omega, by rw [h.len]; omega, h.ok⟩
  · show (match kindGo first false false ps with | (true, true) => ("both" : Str) | (true, false) => "skips" | (false, true) => "repeats" | (false, false) => "fixed") = kind
    rw [h.fl]
    have nb1 : ¬ (("both" : Str) = "skips") := by decide +kernel
    have nb2 : ¬ (("both" : Str) = "repeats") := by decide +kernel
    rcases hk with ⟨rfl, rfl⟩ | ⟨rfl | rfl, hi⟩ | ⟨rfl, hi⟩
    · rfl
    · match i with
      | 1 => unfold flagsOf; simp [ne_sr]
      | i + 2 => unfold flagsOf; simp
    · match i with
      | 1 => unfold flagsOf; simp
      | i + 2 => unfold flagsOf; simp [ne_rs]
    · match i with
      | i + 2 => unfold flagsOf; simp [nb1, nb2]
/-- what the written dict of signs gives -/
def sgnV (kind : Str) (d : Int) : V := (valV (mergeK [] [((Sum.inr "skips" : Key), V.int 1), (Sum.inr "repeats", V.int (0 - 1))]) (Sum.inr kind : Key)).getD (.int d)
theorem sgnV_ok {kind : Str} {i : Nat} {d : Int} (h1 : d = 1 ∨ d = -1) (h2 : i = 0 → d = 1) (h3 : i = 1 → d = -1) : ∃ s, sgnV kind d = .int s ∧ Sgn kind i s := by
  have e : mergeK [] [((Sum.inr "skips" : Key), V.int 1), (Sum.inr "repeats", V.int (0 - 1))] = [((Sum.inr "skips" : Key), V.int 1), (Sum.inr "repeats", V.int (0 - 1))] := by decide +kernel
  unfold sgnV
  rw [e]
  by_cases k1 : kind = "skips"
  · subst k1
    rw [valV_pos rfl]
    exact ⟨1, rfl, .inl rfl, fun _ => rfl, fun h => absurd h ne_sr, fun h => absurd rfl h, fun h => absurd rfl h⟩
  · rw [valV_neg (fun h => k1 (Sum.inr.inj h).symm)]
    by_cases k2 : kind = "repeats"
    · subst k2
      rw [valV_pos rfl]
      exact ⟨-1, rfl, .inr rfl, fun h => absurd h k1, fun _ => rfl, fun _ h => absurd rfl h, fun _ h => absurd rfl h⟩
    · rw [valV_neg (fun h => k2 (Sum.inr.inj h).symm), valV_nil]
      exact ⟨d, rfl, h1, fun h => absurd h k1, fun h => absurd h k2, fun _ _ => h2, fun _ _ => h3⟩
/-! ### promises -/
def sp_law_zone (K : PySem.W.Frag) : Sp := fun vs H Q _ => ∃ (ρ : Rw) (kind : Str), vs = [.ref ρ.1, .str kind] ∧ Row K H ρ ∧ (kind = "fixed" ∨ kind = "skips" ∨ kind = "repeats" ∨ kind = "both") ∧
  ∀ zv z H', Fr ρ.1 H H' → Row K H' ρ → ZV K H' zv z → GoodZ kind z → Q zv H'
section
variable {P : Program} {w : World} {K : PySem.W.Frag} {mg : Str → Option Value} {base : Heap}
theorem ok_law_zone (T : Txt w K mg) : FnOk P w K mg base CX0 3 T.f_law_zone.f T.f_law_zone.fd ["row", "kind"] (sp_law_zone K) := by
  refine T.f_law_zone.F.ok sc_law_zone (fun vs H Q E h => ?_) (fun cdv A outer s H vs Q E hr h => ?_)
  · obtain ⟨ρ, kind, rfl, _⟩ := h
    rfl
  obtain ⟨ρ, kind, rfl, hR, hk, k⟩ := h
  obtain ⟨rowl, hrow⟩ := hR.lst
  refine ⟨(tSeq (tPar3 2 3 4 (tCons (tOp (rI0 fun i j => .int (i - j)) (tCall (sp_law_taken K) [] E0 (tCons (tVar 0) (tCons (tC (.int 7)) tNil))) (tC (.int 3))) (tCons (tLst tNil) (tCons (tOp (rI0 fun i j => .int (i - j)) (tCall (sp_law_taken K) [] E0 (tCons (tVar 0) (tCons (tC (.int 9)) tNil))) (tC (.int 30))) tNil)))) (tSeq (tAsg (tVar 2) (gName 5)) (tSeq (tAsg (tIf (tTest (tOp rEq (tVar 1) (tC (.str "fixed")))) (tC (.int 0)) (tIf (tTest (tOp rNe (tVar 1) (tC (.str "both")))) (tOp (rI0 fun i j => .int (i + j)) (tC (.int 1)) (tCall (sp_law_taken K) [] E0 (tCons (tVar 0) (tCons (tC (.int 4)) tNil)))) (tOp (rI0 fun i j => .int (i + j)) (tC (.int 2)) (tCall (sp_law_taken K) [] E0 (tCons (tVar 0) (tCons (tC (.int 3)) tNil)))))) (gName 6)) (tSeq (tFor (iRng1 (tCons (tVar 6) tNil)) (gName 7) (tSeq (tAsg (tOp (rI0 fun i j => .int (i + j)) (tC (.int 1)) (tCall (sp_law_taken K) [] E0 (tCons (tVar 0) (tCons (tC (.int 3)) tNil)))) (gName 8)) (tSeq (tAsg (tDGet2 (tDisp [((tC (.str "skips")), (tC (.int 1))), ((tC (.str "repeats")), (tOp (rI0 fun i j => .int (i - j)) (tC (.int 0)) (tC (.int 1))))]) (tVar 1) (tIf (tTest (tOp rEq (tVar 7) (tC (.int 0)))) (tC (.int 1)) (tIf (tTest (tOp rEq (tVar 7) (tC (.int 1)))) (tOp (rI0 fun i j => .int (i - j)) (tC (.int 0)) (tC (.int 1))) (tOp (rI0 fun i j => .int (i - j)) (tC (.int 1)) (tOp (rI CMul fun i j => .int (i * j)) (tC (.int 2)) (tCall (sp_law_taken K) [] E0 (tCons (tVar 0) (tCons (tC (.int 2)) tNil)))))))) (gName 9)) (tSeq (tAsg (tOp (rI0 fun i j => .int (i + j)) (tVar 2) (tOp (rI CMul fun i j => .int (i * j)) (tVar 9) (tVar 8))) (gName 2)) (tSeq (tDrop (tBM K "list" rAppend (tVar 3) (tCons (tTup (tCons (tVar 4) (tCons (tVar 2) tNil))) tNil))) (tAsg (tOp (rI0 fun i j => .int (i + j)) (tOp (rI0 fun i j => .int (i + j)) (tVar 4) (tC (.int 12))) (tCall (sp_law_pick K) [] E0 (tCons (tVar 0) (tCons (tLst (tCons (tC (.int 0)) (tCons (tC (.int 1)) (tCons (tC (.int 12)) (tCons (tC (.int 13)) (tCons (tCall (sp_law_taken K) [] E0 (tCons (tVar 0) (tCons (tC (.int 20)) tNil))) tNil)))))) tNil)))) (gName 4))))))) (tRet (tTup (tCons (tVar 5) (tCons (tCB (r_tupleOf K) (tCons (tVar 3) tNil)) tNil)))))))),
    PSs.nox (pss_cons (ps_par3 (by rfl) sc_law_zone.nd rfl rfl rfl (by decide) (by decide) (by decide) rfl rfl rfl (pa_cons (pe_op op_sub (pe_call (ok_law_taken T) (hr.mono (by decide)) (by rfl) T.f_law_taken.g T.f_law_taken.F.kp T.f_law_taken.b .nil pass0 (pa_cons (pv 0) (pa_cons pe_int pa_nil))) pe_int) (pa_cons (pe_lst pa_nil) (pa_cons (pe_op op_sub (pe_call (ok_law_taken T) (hr.mono (by decide)) (by rfl) T.f_law_taken.g T.f_law_taken.F.kp T.f_law_taken.b .nil pass0 (pa_cons (pv 0) (pa_cons pe_int pa_nil))) pe_int) pa_nil))) (by rfl)) (pss_cons (ps_set (i := 5) sc_law_zone.nd rfl (Or.inl rfl) (pv 2)) (pss_cons (ps_set (i := 6) sc_law_zone.nd rfl (Or.inl rfl) (pe_ifExp (pt_cmpR op_eq (pv 1) pe_str (nomark _)) pe_int (pe_ifExp (pt_cmpR op_ne (pv 1) pe_str (nomark _)) (pe_op op_add pe_int (pe_call (ok_law_taken T) (hr.mono (by decide)) (by rfl) T.f_law_taken.g T.f_law_taken.F.kp T.f_law_taken.b .nil pass0 (pa_cons (pv 0) (pa_cons pe_int pa_nil)))) (pe_op op_add pe_int (pe_call (ok_law_taken T) (hr.mono (by decide)) (by rfl) T.f_law_taken.g T.f_law_taken.F.kp T.f_law_taken.b .nil pass0 (pa_cons (pv 0) (pa_cons pe_int pa_nil))))))) (pss_cons (ps_for PassesOwn.never rfl (pi_range1 (by rfl) T.z_range (pa_cons (pv 6) pa_nil)) (pg_name (i := 7) sc_law_zone.nd rfl (Or.inl rfl)) (pss_cons (ps_set (i := 8) sc_law_zone.nd rfl (Or.inl rfl) (pe_op op_add pe_int (pe_call (ok_law_taken T) (hr.mono (by decide)) (by rfl) T.f_law_taken.g T.f_law_taken.F.kp T.f_law_taken.b .nil pass0 (pa_cons (pv 0) (pa_cons pe_int pa_nil))))) (pss_cons (ps_set (i := 9) sc_law_zone.nd rfl (Or.inl rfl) (pe_dget2 (hu_of hr) (pe_disp (pps_cons pe_str pe_int (pps_cons pe_str (pe_op op_sub pe_int pe_int) pps_nil)) (by rfl) (by rfl) (fun z => by cases z) (by decide)) (pv 1) (pe_ifExp (pt_cmpR op_eq (pv 7) pe_int (nomark _)) pe_int (pe_ifExp (pt_cmpR op_eq (pv 7) pe_int (nomark _)) (pe_op op_sub pe_int pe_int) (pe_op op_sub pe_int (pe_op op_mul pe_int (pe_call (ok_law_taken T) (hr.mono (by decide)) (by rfl) T.f_law_taken.g T.f_law_taken.F.kp T.f_law_taken.b .nil pass0 (pa_cons (pv 0) (pa_cons pe_int pa_nil))))))) ⟨by rfl, by rfl, by rfl, by rfl⟩)) (pss_cons (ps_set (i := 2) sc_law_zone.nd rfl (Or.inl rfl) (pe_op op_add (pv 2) (pe_op op_mul (pv 9) (pv 8)))) (pss_cons (ps_expr (pe_bm PySem.F.plainAttrs_list PySem.F.slot_list_append PySem.F.type_list_append mt_append (pv 3) (pa_cons (pe_tup (pa_cons (pv 4) (pa_cons (pv 2) pa_nil))) pa_nil))) (pss_one (ps_set (i := 4) sc_law_zone.nd rfl (Or.inl rfl) (pe_op op_add (pe_op op_add (pv 4) pe_int) (pe_call (ok_law_pick T) (hr.mono (by decide)) (by rfl) T.f_law_pick.g T.f_law_pick.F.kp T.f_law_pick.b .nil pass0 (pa_cons (pv 0) (pa_cons (pe_lst (pa_cons pe_int (pa_cons pe_int (pa_cons pe_int (pa_cons pe_int (pa_cons (pe_call (ok_law_taken T) (hr.mono (by decide)) (by rfl) T.f_law_taken.g T.f_law_taken.F.kp T.f_law_taken.b .nil pass0 (pa_cons (pv 0) (pa_cons pe_int pa_nil))) pa_nil)))))) pa_nil))))))))))) (pss_one (ps_ret (pe_tup (pa_cons (pv 5) (pa_cons (pe_callTy call_tuple_of (by rfl) T.z_tuple (by decide +kernel) (pa_cons (pv 3) pa_nil)) pa_nil))))))))), ?_⟩
  walk_at "gg"
  refine ⟨ρ, _, rfl, hR, by omega, by omega, fun v1 H1 p1 q1 e1 R1 => ?_⟩
  walk_at "gg"
  refine g_newL (by simp) fun l H2 n2 e2 h2 => ?_
  walk_at "gg"
  refine ⟨ρ, _, rfl, R1.ex e2, by omega, by omega, fun v2 H3 p3 q3 e3 R3 => ?_⟩
  walk_at "nn"
  have nl : H l = none := by
    obtain ⟨xs, q⟩ := R1.lst
    have ne : l ≠ ρ.1 := fun z => by rw [z, q] at n2; cases n2
    cases q0 : H l with
    | none => rfl
    | some o => rw [e1 l o ne q0] at n2; cases n2
  have nlr : l ≠ ρ.1 := fun z => by rw [z, hrow] at nl; cases nl
  have h3 : H3 l = some (.lst []) := e3 _ _ nlr h2
  have f3 : Fr ρ.1 H H3 := (e1.trans (Fr.of e2)).trans e3
  refine cutE (te := tIf _ _ _) (fun v H' => ∃ m : Int, v = .int m ∧ 0 ≤ m ∧ m ≤ 4 ∧ Fr ρ.1 H3 H' ∧ Row K H' ρ ∧ ((kind = "fixed" ∧ m = 0) ∨ ((kind = "skips" ∨ kind = "repeats") ∧ 1 ≤ m) ∨ (kind = "both" ∧ 2 ≤ m))) ?_ ?_
  · intro Q' k'
    refine g_if ?_
    walk_at "gg"
    refine if_d (fun c => ?_) (fun c => ?_)
    · walk_at "gg"
      exact k' _ _ ⟨0, rfl, by omega, by omega, Fr.refl, R3, .inl ⟨c, rfl⟩⟩
    · walk_at "gg"
      refine if_nd (fun c2 => ?_) (fun c2 => ?_)
      · walk_at "gg"
        refine ⟨ρ, _, rfl, R3, by omega, by omega, fun v4 H4 p4 q4 e4 R4 => ?_⟩
        walk_at "gg"
        refine k' _ _ ⟨_, rfl, by omega, by omega, e4, R4, .inr (.inl ⟨?_, by omega⟩)⟩
        rcases hk with h | h | h | h
        · exact absurd h c
        · exact .inl h
        · exact .inr h
        · exact absurd h c2
      · walk_at "gg"
        refine ⟨ρ, _, rfl, R3, by omega, by omega, fun v4 H4 p4 q4 e4 R4 => ?_⟩
        walk_at "gg"
        exact k' _ _ ⟨_, rfl, by omega, by omega, e4, R4, .inr (.inr ⟨c2, by omega⟩)⟩
  rintro _ H4 ⟨m, rfl, m0, m4, e4, R4, hm⟩
  walk_at "gg"
  refine g_forR (by omega) (by omega) (fun i σ' H' => ∃ o at' ps vs k0 st0 sg0, σ' = [some (.ref ρ.1), some (.str kind), some (.int o), some (.ref l), some (.int at'), some (.int (v1 - 3)), some (.int m), k0, st0, sg0] ∧
      Fr ρ.1 H H' ∧ Row K H' ρ ∧ H' l = some (.lst vs) ∧ PVs K H' vs ps ∧ ZInv kind (v1 - 3) i ps o at') ?_ ?_ ?_
  · exact ⟨_, _, [], [], _, _, _, rfl, f3.trans e4, R4, e4 _ _ nlr h3, .nil, rfl, rfl, rfl, by show (-1000 : Int) ≤ _; omega, by omega, by omega, by omega, by omega, rfl⟩
  · rintro i σ' H5 hi ⟨o, at', ps, vs, k0, st0, sg0, rfl, f5, R5, h5, P5, Z5⟩
    walk_at "gg"
    refine ⟨ρ, _, rfl, R5, by omega, by omega, fun v6 H6 p6 q6 e6 R6 => ?_⟩
    walk_at "gg"
    refine g_disp fun d H7 n7 e7 h7 => ?_
    walk_at "gg"
    refine g_dispEnd [((Sum.inr "skips" : Key), V.int 1), (Sum.inr "repeats", V.int (0 - 1))] (H0 := H6) n7 e7 h7 rfl (by decide) fun H8 e8 _ h8 => ?_
    refine g_isD h8 ?_
    walk_at "nn"
    have R8 := R6.ex e8
    refine cutE (te := tIf _ _ _) (fun v H' => ∃ x : Int, v = .int x ∧ (x = 1 ∨ x = -1) ∧ (i = 0 → x = 1) ∧ (i = 1 → x = -1) ∧ Fr ρ.1 H8 H' ∧ Row K H' ρ) ?_ ?_
    · intro Q' k'
      refine g_if ?_
      walk_at "gg"
      refine if_d (fun c => ?_) (fun c => ?_)
      · walk_at "gg"
        exact k' _ _ ⟨_, rfl, .inl rfl, fun _ => rfl, fun h => by omega, Fr.refl, R8⟩
      · walk_at "gg"
        refine if_d (fun c2 => ?_) (fun c2 => ?_)
        · walk_at "gg"
          exact k' _ _ ⟨_, rfl, .inr rfl, fun h => by omega, fun h => rfl, Fr.refl, R8⟩
        · walk_at "gg"
          refine ⟨ρ, _, rfl, R8, by omega, by omega, fun v9 H9 p9 q9 e9 R9 => ?_⟩
          walk_at "gg"
          exact k' _ _ ⟨_, rfl, by omega, fun h => by omega, fun h => by omega, e9, R9⟩
    rintro _ H9 ⟨x, rfl, x1, x2, x3, e9, R9⟩
    have nd : d ≠ ρ.1 := fun z => by
      obtain ⟨xs, q⟩ := R6.lst
      rw [z, q] at n7
      cases n7
    refine g_dgetR (e9 _ _ nd h8) ?_
    obtain ⟨sg, es, S⟩ := sgnV_ok (kind := kind) (i := i) (d := x) x1 x2 x3
    rw [show (valV (mergeK [] [((Sum.inr "skips" : Key), V.int 1), (Sum.inr "repeats", V.int (0 - 1))]) (Sum.inr kind : Key)).getD (.int x) = .int sg from es]
    walk_at "gg"
    have R9l : H9 l = some (.lst vs) := e9 _ _ nlr (e8 _ _ (e6 _ _ nlr h5))
    refine g_tbmV rfl (SqL.of R9l) ?_
    walk_at "gg"
    refine g_newT (by simp) fun t1 H10 n10 e10 h10 => ?_
    walk_at "gg"
    have h10l := e10 _ _ R9l
    have len := P5.len
    have f10 : Fr ρ.1 H H10 := (((f5.trans e6).trans (Fr.of e8)).trans e9).trans (Fr.of e10)
    have R10 := R9.ex e10
    refine g_app h10l (by rw [len, Z5.len]; omega) fun H11 e11 => ?_
    have R11 : Row K H11 ρ := by rw [e11]; exact Row.mut hR R10 f10 nl
    have f11 : Fr ρ.1 H H11 := by rw [e11]; exact Fr.mut f10 nl
    have t11 : TrT K H10 H11 := by rw [e11]; exact TrT.upd h10l
    have h11 : H11 l = some (.lst (vs ++ [.ref t1])) := by rw [e11]; exact upd_same
    have P11 : PVs K H11 (vs ++ [.ref t1]) (ps ++ [(at', o + sg * (1 + v6))]) :=
      pd_app (P5.tr ((((R5.tr e6).trans (TrT.of e8)).trans (R8.tr e9)).trans ((TrT.of e10).trans t11))) (.cons ⟨t1, rfl, t11 _ _ (SqT.of h10)⟩ .nil)
    clear e11
    walk_at "gg"
    refine ⟨ρ, _, rfl, R11, by omega, by omega, fun v12 H12 p12 q12 e12 R12 => ?_⟩
    walk_at "gg"
    refine g_newL (by simp) fun l13 H13 n13 e13 h13 => ?_
    walk_at "gg"
    obtain ⟨xs12, q12'⟩ := R12.lst
    refine ⟨ρ, _, _, rfl, R12.ex e13, h13, (ne_of_none q12' n13).symm, by simp, by simp, fun x H14 m14 e14 R14 => ?_⟩
    obtain ⟨gp, rfl, g0, g1⟩ : ∃ gp : Int, x = .int gp ∧ 0 ≤ gp ∧ gp ≤ 19 := by
      simp only [List.mem_cons, List.not_mem_nil, or_false] at m14
      rcases m14 with rfl | rfl | rfl | rfl | rfl
      · exact ⟨_, rfl, by omega, by omega⟩
      · exact ⟨_, rfl, by omega, by omega⟩
      · exact ⟨_, rfl, by omega, by omega⟩
      · exact ⟨_, rfl, by omega, by omega⟩
      · exact ⟨_, rfl, by omega, by omega⟩
    walk_at "gg"
    have f1114 : Fr ρ.1 H11 H14 := (e12.trans (Fr.of e13)).trans e14
    exact ⟨_, _, _, _, _, _, _, rfl, f11.trans f1114, R14, f1114 _ _ nlr h11, P11.tr (R11.tr f1114), Z5.step (by omega) (by omega) (by omega) S g0 g1⟩
  · rintro σ' H5 ⟨o, at', ps, vs, k0, st0, sg0, rfl, f5, R5, h5, P5, Z5⟩
    walk_at "gg"
    refine g_tupleOfL (SqL.of h5) fun t1 H6 n6 e6 h6 => ?_
    walk_at "gg"
    refine g_newT (by simp) fun t2 H7 n7 e7 h7 => ?_
    refine k (.ref t2) (v1 - 3, ps) H7 ((f5.trans (Fr.of e6)).trans (Fr.of e7)) ((R5.ex e6).ex e7) ⟨t2, .ref t1, rfl, SqT.of h7, t1, vs, rfl, SqT.of (e7 _ _ h6), P5.tr (TrT.of (e6.trans e7))⟩ (Z5.good (by omega) (by omega) (by omega) ?_)
    have : (m.toNat : Int) = m := by omega
    rcases hm with ⟨h1, h2⟩ | ⟨h1, h2⟩ | ⟨h1, h2⟩
    · exact .inl ⟨h1, by omega⟩
    · exact .inr (.inl ⟨h1, by omega⟩)
    · exact .inr (.inr ⟨h1, by omega⟩)
end
local macro_rules | `(tactic| walk_at "m") => `(tactic| first
  | with_reducible refine g_m1 ?_
  | with_reducible refine g_isS ?_
  | with_reducible refine g_lcStr ?_
  | with_reducible refine g_join ?_
  | with_reducible refine g_js ?_
  | with_reducible refine g_jsN ?_
  | with_reducible refine g_fmt ?_
  | with_reducible refine g_callLam ?_
  | with_reducible refine g_revT ?_)

def sp_law_spot (K : PySem.W.Frag) : Sp := fun vs H Q _ => ∃ (ρ : Rw) (zv : V) (z : Zone), vs = [.ref ρ.1, zv] ∧ Row K H ρ ∧ ZV K H zv z ∧ OkZ z ∧
  ∀ v H', -2000 ≤ v → v ≤ 2000 → Fr ρ.1 H H' → Row K H' ρ → Q (.int v) H'
def sp_law (K : PySem.W.Frag) : Sp := fun vs H Q _ => ∃ (a : Addr) (ns : List Int), vs = [.ref a] ∧ SqL K H a (ns.map V.int) ∧ ns.length ≤ 63 ∧ ∀ H', Q (.bl true) H'
theorem Row.new {K : PySem.W.Frag} {H H' : Hp} {a r : Addr} {ns : List Int} {s : Int} (h : SqL K H a (ns.map V.int)) (n : H r = none) (e : Ex H H') (q : H' r = some (.lst [.ref a, .int 0, .int s, .int 0])) (h0 : 0 ≤ s) (h1 : s < 2 ^ 40) :
    Row K H' (r, a, ns) := by
  refine ⟨0, s, 0, q, fun G f => ?_, Int.le_refl _, h0, h1⟩
  rcases h with (h | ⟨o, h⟩) | h
  · exact .inl (.inl (f a _ (ne_of_none h n) (e a _ h)))
  · exact .inl (.inr ⟨o, f a _ (ne_of_none h n) (e a _ h)⟩)
  · exact .inr h
section
variable {P : Program} {w : World} {K : PySem.W.Frag} {mg : Str → Option Value} {base : Heap}
theorem ok_law_spot (T : Txt w K mg) : FnOk P w K mg base CX0 3 T.f_law_spot.f T.f_law_spot.fd ["row", "zone"] (sp_law_spot K) := by
  refine T.f_law_spot.F.ok sc_law_spot (fun vs H Q E h => ?_) (fun cdv A outer s H vs Q E hr h => ?_)
  · obtain ⟨ρ, zv, z, rfl, _⟩ := h
    rfl
  obtain ⟨ρ, zv, z, rfl, hR, hv, hz, k⟩ := h
  obtain ⟨rowl, hrow⟩ := hR.lst
  obtain ⟨a, c, rfl, ha, b, xs, rfl, hb, hp⟩ := id hv
  refine ⟨(tSeq (tAsg (tOp rCat (tCB (Evl.rListS K) (tCons (tOp (rIxT K) (tVar 1) (tC (.int 1))) tNil)) (tLst (tCons (tTup (tCons (tOp (rI0 fun i j => .int (i - j)) (tCall (sp_law_taken K) [] E0 (tCons (tVar 0) (tCons (tC (.int 99)) tNil))) (tC (.int 50))) (tCons (tOp (rIxT K) (tVar 1) (tC (.int 0))) tNil))) tNil))) (gName 2)) (tSeq (tAsg (tOp (rIxL K) (tVar 2) (tCall (sp_law_taken K) [] E0 (tCons (tVar 0) (tCons (tCB (Evl.rLenS K) (tCons (tVar 2) tNil)) tNil)))) (gTup K 2 (gCons (gName 3) (gCons (gName 4) gNil)))) (tRet (tOp (rI0 fun i j => .int (i + j)) (tOp (rI0 fun i j => .int (i + j)) (tVar 3) (tVar 4)) (tCall (sp_law_pick K) [] E0 (tCons (tVar 0) (tCons (tLst (tCons (tC (.int 0)) (tCons (tOp (rI0 fun i j => .int (i - j)) (tC (.int 0)) (tC (.int 1))) (tCons (tOp (rI0 fun i j => .int (i - j)) (tC (.int 0)) (tC (.int 2))) (tCons (tOp (rI0 fun i j => .int (i - j)) (tC (.int 0)) (tC (.int 3))) (tCons (tC (.int 1)) (tCons (tC (.int 2)) (tCons (tC (.int 3)) (tCons (tOp (rI0 fun i j => .int (i - j)) (tC (.int 0)) (tC (.int 24))) (tCons (tC (.int 24)) (tCons (tOp (rI0 fun i j => .int (i - j)) (tCall (sp_law_taken K) [] E0 (tCons (tVar 0) (tCons (tC (.int 15)) tNil))) (tC (.int 7))) tNil))))))))))) tNil))))))),
    PSs.nox (pss_cons (ps_set (i := 2) sc_law_spot.nd rfl (Or.inl rfl) (pe_op op_cat (pe_callTy call_list_of (by rfl) T.z_list (by decide +kernel) (pa_cons (pe_ix ix_tup (pv 1) pe_int (fun _ _ => rfl)) pa_nil)) (pe_lst (pa_cons (pe_tup (pa_cons (pe_op op_sub (pe_call (ok_law_taken T) (hr.mono (by decide)) (by rfl) T.f_law_taken.g T.f_law_taken.F.kp T.f_law_taken.b .nil pass0 (pa_cons (pv 0) (pa_cons pe_int pa_nil))) pe_int) (pa_cons (pe_ix ix_tup (pv 1) pe_int (fun _ _ => rfl)) pa_nil))) pa_nil)))) (pss_cons (ps_asg (pe_ix ix_list (pv 2) (pe_call (ok_law_taken T) (hr.mono (by decide)) (by rfl) T.f_law_taken.g T.f_law_taken.F.kp T.f_law_taken.b .nil pass0 (pa_cons (pv 0) (pa_cons (pe_callB call_len_seq (by rfl) T.z_len (by decide +kernel) (pa_cons (pv 2) pa_nil)) pa_nil))) (fun _ _ => rfl)) (pg_tup rfl (pgs_cons (pg_name (i := 3) sc_law_spot.nd rfl (Or.inl rfl)) (pgs_cons (pg_name (i := 4) sc_law_spot.nd rfl (Or.inl rfl)) pgs_nil)))) (pss_one (ps_ret (pe_op op_add (pe_op op_add (pv 3) (pv 4)) (pe_call (ok_law_pick T) (hr.mono (by decide)) (by rfl) T.f_law_pick.g T.f_law_pick.F.kp T.f_law_pick.b .nil pass0 (pa_cons (pv 0) (pa_cons (pe_lst (pa_cons pe_int (pa_cons (pe_op op_sub pe_int pe_int) (pa_cons (pe_op op_sub pe_int pe_int) (pa_cons (pe_op op_sub pe_int pe_int) (pa_cons pe_int (pa_cons pe_int (pa_cons pe_int (pa_cons (pe_op op_sub pe_int pe_int) (pa_cons pe_int (pa_cons (pe_op op_sub (pe_call (ok_law_taken T) (hr.mono (by decide)) (by rfl) T.f_law_taken.g T.f_law_taken.F.kp T.f_law_taken.b .nil pass0 (pa_cons (pv 0) (pa_cons pe_int pa_nil))) pe_int) pa_nil))))))))))) pa_nil)))))))), ?_⟩
  walk_at "gg"
  refine g_listOfT hb fun l1 H1 n1 e1 h1 => ?_
  walk_at "gg"
  refine ⟨ρ, _, rfl, hR.ex e1, by omega, by omega, fun v2 H2 p2 q2 e2 R2 => ?_⟩
  walk_at "gg"
  have t2 : TrT K H H2 := (TrT.of e1).trans ((hR.ex e1).tr e2)
  refine g_ixT (t2 _ _ ha) rfl ?_
  walk_at "gg"
  refine g_newT (by simp) fun t3 H3 n3 e3 h3 => ?_
  walk_at "gg"
  refine g_newL (by simp) fun l4 H4 n4 e4 h4 => ?_
  have n1r : l1 ≠ ρ.1 := (ne_of_none hrow n1).symm
  have m := hp.len
  have m8 := hz.len
  refine g_cat (e4 _ _ (e3 _ _ (e2 _ _ n1r h1))) h4 (by simp; omega) fun l5 H5 n5 e5 h5 => ?_
  walk_at "gg"
  refine g_lenL (SqL.of h5) ?_
  walk_at "gg"
  have R5 := ((R2.ex e3).ex e4).ex e5
  refine ⟨ρ, _, rfl, R5, by simp, by simp; omega, fun v6 H6 p6 q6 e6 R6 => ?_⟩
  have lt : v6.toNat < (xs ++ [V.ref t3]).length := by omega
  have n5r : l5 ≠ ρ.1 := by
    obtain ⟨_, q⟩ := R2.lst
    exact (ne_of_none (e4 _ _ (e3 _ _ q)) n5).symm
  refine g_ixL (SqL.of (e6 _ _ n5r h5)) (atI_of p6 (List.getElem?_eq_getElem lt)) ?_
  have t6 : TrT K H3 H6 := (TrT.of (e4.trans e5)).trans (R5.tr e6)
  have P6 : PVs K H6 (xs ++ [V.ref t3]) (z.2 ++ [(v2 - 50, z.1)]) :=
    pd_app ((hp.tr t2).tr ((TrT.of e3).trans t6)) (.cons ⟨t3, rfl, t6 _ _ (SqT.of h3)⟩ .nil)
  obtain ⟨p, hp1, t7, et, ht⟩ := pd_get P6 (List.getElem?_eq_getElem lt)
  rw [et]
  have pm := List.mem_of_getElem? hp1
  have b1 : -1000 ≤ p.1 ∧ p.1 ≤ 1000 ∧ -15 ≤ p.2 ∧ p.2 ≤ 15 := by
    rcases List.mem_append.mp pm with q | q
    · have := okGo_offs hz.go p q
      omega
    · have e := List.mem_singleton.mp q
      subst e
      have := hz.lo
      have := hz.hi
      show -1000 ≤ v2 - 50 ∧ v2 - 50 ≤ 1000 ∧ -15 ≤ z.1 ∧ z.1 ≤ 15
      omega
  walk_at "gg"
  refine ⟨ρ, _, rfl, R6, by omega, by omega, fun v8 H8 p8 q8 e8 R8 => ?_⟩
  walk_at "gg"
  refine g_newL (by simp) fun l9 H9 n9 e9 h9 => ?_
  walk_at "gg"
  obtain ⟨xs8, q8'⟩ := R8.lst
  refine ⟨ρ, _, _, rfl, R8.ex e9, h9, (ne_of_none q8' n9).symm, by simp, by simp, fun x H10 m10 e10 R10 => ?_⟩
  obtain ⟨gp, rfl, g0, g1⟩ : ∃ gp : Int, x = .int gp ∧ -24 ≤ gp ∧ gp ≤ 24 := by
    simp only [List.mem_cons, List.not_mem_nil, or_false] at m10
    rcases m10 with rfl | rfl | rfl | rfl | rfl | rfl | rfl | rfl | rfl | rfl <;> exact ⟨_, rfl, by omega, by omega⟩
  walk_at "gg"
  refine k _ H10 (by omega) (by omega) ?_ R10
  exact ((((((Fr.of e1).trans e2).trans (Fr.of e3)).trans (Fr.of e4)).trans (Fr.of e5)).trans e6).trans ((e8.trans (Fr.of e9)).trans e10)
end
/-! ### offsets near one another -/
theorem offGo_before {t : Int} : ∀ {b e : Int} {cs : List (Int × Int)}, okGo b e cs = true → t < e → offGo t b cs = b
  | _, _, [], _, _ => rfl
  | b, e, p :: r, h, q => by
    have := okGo_after h p (by simp)
    unfold offGo
    rw [if_pos (by omega)]
theorem offGo_cons (t b : Int) (p : Int × Int) (r : List (Int × Int)) : offGo t b (p :: r) = if p.1 > t then b else offGo t p.2 r := rfl
/-- at most one change in twelve hours -/
theorem off_near {t u : Int} (h1 : t ≤ u) (h2 : u ≤ t + 12) : ∀ {b e : Int} {cs : List (Int × Int)}, okGo b e cs = true →
    ∃ s, t < s ∧ (∀ x, t ≤ x → x < s → offGo x b cs = offGo t b cs) ∧ (∀ x, s ≤ x → x ≤ u → offGo x b cs = offGo u b cs) ∧
      (s ≤ u → offGo u b cs ≠ offGo t b cs ∧ offGo u b cs - offGo t b cs ≤ 3 ∧ offGo t b cs - offGo u b cs ≤ 3)
  | _, _, [], _ => ⟨u + 1, by omega, fun _ _ _ => rfl, fun x _ _ => rfl, fun h => by omega⟩
  | b, e, p :: r, h => by
    have h0 := h
    rw [okGo_cons, Bool.and_eq_true] at h
    have hc := h.1
    unfold okC at hc
    simp only [Bool.and_eq_true, decide_eq_true_eq] at hc
    by_cases c1 : u < p.1
    · refine ⟨u + 1, by omega, fun x x1 x2 => ?_, fun x x1 x2 => by omega, fun h => by omega⟩
      rw [offGo_cons, offGo_cons, if_pos (by omega), if_pos (by omega)]
    · by_cases c2 : p.1 ≤ t
      · obtain ⟨s, s1, s2, s3, s4⟩ := off_near h1 h2 h.2
        refine ⟨s, s1, fun x x1 x2 => ?_, fun x x1 x2 => ?_, fun hs => ?_⟩
        · rw [offGo_cons, offGo_cons, if_neg (by omega), if_neg (by omega)]
          exact s2 x x1 x2
        · rw [offGo_cons, offGo_cons, if_neg (by omega), if_neg (by omega)]
          exact s3 x x1 x2
        · rw [offGo_cons, offGo_cons, if_neg (by omega), if_neg (by omega)]
          exact s4 hs
      · have e1 : ∀ x, t ≤ x → x < p.1 → offGo x b (p :: r) = b := fun x x1 x2 => by rw [offGo_cons, if_pos (by omega)]
        have e2 : ∀ x, p.1 ≤ x → x ≤ u → offGo x b (p :: r) = p.2 := fun x x1 x2 => by
          rw [offGo_cons, if_neg (by omega)]
          exact offGo_before h.2 (by omega)
        refine ⟨p.1, by omega, fun x x1 x2 => ?_, fun x x1 x2 => ?_, fun hs => ?_⟩
        · rw [e1 x x1 x2, e1 t (by omega) (by omega)]
        · rw [e2 x x1 x2, e2 u (by omega) (by omega)]
        · rw [e2 u (by omega) (by omega), e1 t (by omega) (by omega)]
          omega
section
variable {z : Zone} (h : OkZ z)
include h
theorem OkZ.near {t u : Int} (h1 : t ≤ u) (h2 : u ≤ t + 12) : ∃ s, t < s ∧ (∀ x, t ≤ x → x < s → off z x = off z t) ∧ (∀ x, s ≤ x → x ≤ u → off z x = off z u) ∧
      (s ≤ u → off z u ≠ off z t ∧ off z u - off z t ≤ 3 ∧ off z t - off z u ≤ 3) := off_near h1 h2 h.go
theorem OkZ.near3 {t u : Int} (h1 : t ≤ u) (h2 : u ≤ t + 12) : off z u - off z t ≤ 3 ∧ off z t - off z u ≤ 3 := by
  obtain ⟨s, s1, s2, s3, s4⟩ := h.near h1 h2
  by_cases c : s ≤ u
  · exact (s4 c).2
  · rw [s2 u h1 (by omega)]
    omega
theorem OkZ.far {t : Int} (n : Nat) : ∀ u : Int, t ≤ u → u ≤ t + 12 * n → off z u - off z t ≤ 3 * n ∧ off z t - off z u ≤ 3 * n := by
  induction n with
  | zero =>
    intro u h1 h2
    have e : u = t := by omega
    subst e
    omega
  | succ n ih =>
    intro u h1 h2
    by_cases c : u ≤ t + 12
    · have := h.near3 h1 c
      omega
    · have := ih (u - 12) (by omega) (by omega)
      have := h.near3 (t := u - 12) (u := u) (by omega) (by omega)
      omega
/-- a reading that is not greater later comes within three hours -/
theorem OkZ.back {t u : Int} (h1 : t < u) (h2 : u + off z u ≤ t + off z t) : u ≤ t + 3 := by
  have q := h.far (t := t) ((u - t + 11) / 12).toNat u (by omega) (by omega)
  omega
theorem OkZ.two {t u v : Int} (h1 : t < u) (h2 : u < v) (e1 : u + off z u = t + off z t) (e2 : v + off z v = t + off z t) : False := by
  have b := h.back (t := t) (u := v) (by omega) (by omega)
  obtain ⟨s, s1, s2, s3, s4⟩ := h.near (t := t) (u := v) (by omega) (by omega)
  by_cases c : u < s
  · have := s2 u (by omega) c
    omega
  · have := s3 u (by omega) (by omega)
    omega
theorem OkZ.le2 (rd : Int) : (insts z rd).length ≤ 2 := by
  have m := fun k => (insts_mem h (t := rd) (k := k)).1
  have r := insts_rise z rd
  match e : insts z rd with
  | [] => simp
  | [a] => simp
  | [a, b] => simp
  | a :: b :: c :: l =>
    rw [e] at m r
    simp only [List.pairwise_cons] at r
    have h1 := r.1 b (by simp)
    have h2 := r.2.1 c (by simp)
    have e1 := m a (by simp)
    have e2 := m b (by simp)
    have e3 := m c (by simp)
    exact (h.two h1 h2 (by omega) (by omega)).elim
end
/-! ### libraries, times -/
inductive Gap where
  | keep | refuse | shift
  deriving DecidableEq
inductive Fold where
  | both | first | refuse | second
  deriving DecidableEq
structure Way where
  ws : Bool
  wo : Bool
  gap : Gap
  fold : Fold
  deriving DecidableEq
def sumS (b : Bool) : Str := if b then "wall" else "elapsed"
def gapS : Gap → Str
  | .keep => "keep"
  | .refuse => "refuse"
  | .shift => "shift"
def foldS : Fold → Str
  | .both => "both"
  | .first => "first"
  | .refuse => "refuse"
  | .second => "second"
theorem sum_wall (b : Bool) : decide (sumS b = "wall") = b := by cases b <;> decide +kernel
theorem sum_elapsed (b : Bool) : decide (sumS b = "elapsed") = !b := by cases b <;> decide +kernel
theorem gap_keep (g : Gap) : decide (gapS g = "keep") = decide (g = .keep) := by cases g <;> decide +kernel
theorem gap_refuse (g : Gap) : decide (gapS g = "refuse") = decide (g = .refuse) := by cases g <;> decide +kernel
theorem gap_shift (g : Gap) : decide (gapS g = "shift") = decide (g = .shift) := by cases g <;> decide +kernel
theorem fold_both (g : Fold) : decide (foldS g = "both") = decide (g = .both) := by cases g <;> decide +kernel
theorem fold_first (g : Fold) : decide (foldS g = "first") = decide (g = .first) := by cases g <;> decide +kernel
theorem fold_refuse (g : Fold) : decide (foldS g = "refuse") = decide (g = .refuse) := by cases g <;> decide +kernel
theorem fold_second (g : Fold) : decide (foldS g = "second") = decide (g = .second) := by cases g <;> decide +kernel
def maxB (z : Zone) (rd : Int) : Int := ((irange (rd - 16) 33).filter fun k => decide (k + off z k < rd)).getLast?.getD 0
def before (z : Zone) (rd : Int) : Int := off z (maxB z rd)
def times (w : Way) (z : Zone) (rd : Int) : List Tm :=
  if (insts z rd).length = 2 then (match w.fold with | .both => [(rd, 0), (rd, 1)] | .refuse => [] | _ => [(rd, 0)])
  else if (insts z rd).length = 1 ∨ w.gap = .keep then [(rd, 0)] else []
def inst (w : Way) (z : Zone) (t : Tm) : Int :=
  if insts z t.1 = [] then t.1 - before z t.1
  else if w.fold = .second then (insts z t.1).getLast?.getD 0 else ((insts z t.1)[t.2.toNat]?).getD 0
def at_ (w : Way) (z : Zone) (T : Int) : Option Tm :=
  if (insts z (T + off z T)).length = 2 ∧ w.fold = .refuse then none
  else some (T + off z T, if w.fold = .both ∧ T ≠ (insts z (T + off z T)).head?.getD 0 then 1 else 0)
def read_ (w : Way) (z : Zone) (rd : Int) : Option Tm :=
  if insts z rd = [] then (match w.gap with | .shift => at_ w z (rd - before z rd) | .refuse => none | .keep => some (rd, 0))
  else if w.fold = .refuse ∧ (insts z rd).length = 2 then none else some (rd, 0)
def addT (w : Way) (z : Zone) (o : Option Tm) (d : Int) : Option Tm := match o with
  | none => none
  | some t => if w.ws then read_ w z (t.1 + d) else at_ w z (inst w z t + d)
def less_ (w : Way) (z : Zone) (a b : Tm) : Int := if w.ws then a.1 - b.1 else inst w z a - inst w z b
def key (w : Way) (z : Zone) (t : Tm) : Int := if w.wo then t.1 else inst w z t
def cmp (a b : Int) : Int := if a < b then -1 else if a = b then 0 else 1
def order (w : Way) (z : Zone) (a b : Option Tm) : Option Int := match a, b with
  | some a, some b => some (cmp (key w z a) (key w z b))
  | _, _ => none
/-- a time of the library in the zone -/
def IsTm (w : Way) (z : Zone) (t : Tm) : Prop := t ∈ times w z t.1
section
variable {w : Way} {z : Zone} (h : OkZ z)
include h
theorem maxB_spec (rd : Int) : rd - 16 ≤ maxB z rd ∧ maxB z rd ≤ rd + 15 ∧ maxB z rd + off z (maxB z rd) < rd ∧ rd ≤ maxB z rd + 1 + off z (maxB z rd + 1) ∧
    (∀ k, rd - 16 ≤ k → k ≤ rd + 16 → k + off z k < rd → k ≤ maxB z rd) := by
  generalize hl : (irange (rd - 16) 33).filter (fun k => decide (k + off z k < rd)) = l
  have mem : ∀ k, k ∈ l ↔ (rd - 16 ≤ k ∧ k < rd + 17) ∧ k + off z k < rd := fun k => by
    rw [← hl, List.mem_filter, irange_mem, decide_eq_true_eq]
    constructor <;> intro q <;> exact ⟨by omega, q.2⟩
  have ris : l.Pairwise (· < ·) := by rw [← hl]; exact (irange_rise _ _).filter _
  have o1 := h.offs (rd - 16)
  have o2 := h.offs (rd + 16)
  have first : rd - 16 ∈ l := (mem _).2 ⟨by omega, by omega⟩
  cases e : l.getLast? with
  | none => rw [List.getLast?_eq_none_iff] at e; rw [e] at first; cases first
  | some m =>
    have hm : maxB z rd = m := by unfold maxB; rw [hl, e] <;> rfl
    obtain ⟨ys, ey⟩ := List.getLast?_eq_some_iff.mp e
    have up : ∀ k ∈ l, k ≤ m := fun k hk => by
      rw [ey] at hk ris
      rw [List.pairwise_append] at ris
      rcases List.mem_append.mp hk with q | q
      · have := ris.2.2 k q m (by simp)
        omega
      · have := List.mem_singleton.mp q
        omega
    have mm := (mem m).1 (by rw [ey]; simp)
    rw [hm]
    refine ⟨by omega, ?_, mm.2, ?_, fun k k1 k2 k3 => up k ((mem k).2 ⟨by omega, k3⟩)⟩
    · by_cases c : m = rd + 16
      · rw [c] at mm
        omega
      · omega
    · by_cases c : m + 1 + off z (m + 1) < rd
      · by_cases c2 : m + 1 ≤ rd + 16
        · have := up (m + 1) ((mem (m + 1)).2 ⟨by omega, c⟩)
          omega
        · have e : m = rd + 16 := by omega
          rw [e] at mm
          omega
      · omega
/-- in a gap: the change that skips the reading -/
structure InGap (z : Zone) (rd s a b : Int) : Prop where
  lt : b < a
  le : a ≤ b + 3
  bef : ∀ x, s - 12 ≤ x → x < s → off z x = b
  aft : ∀ x, s ≤ x → x ≤ s + 11 → off z x = a
  lo : s + b ≤ rd
  hi : rd < s + a
  bf : before z rd = b
theorem OkZ.gap {rd : Int} (e : insts z rd = []) : ∃ s a b, InGap z rd s a b := by
  obtain ⟨m1, m2, m3, m4, m5⟩ := maxB_spec h rd
  generalize hm : maxB z rd = m at *
  have no : ∀ k, k + off z k ≠ rd := fun k q => by
    have := (insts_mem h (t := rd) (k := k)).2 q
    rw [e] at this
    cases this
  have n1 := no (m + 1)
  have q := h.near3 (t := m) (u := m + 1) (by omega) (by omega)
  refine ⟨m + 1, off z (m + 1), off z m, by omega, by omega, ?_, ?_, by omega, by omega, by unfold before; rw [hm]⟩
  · intro x x1 x2
    obtain ⟨s, s1, s2, s3, s4⟩ := h.near (t := x) (u := m + 1) (by omega) (by omega)
    by_cases c : m < s
    · rw [s2 m (by omega) c]
    · have := s3 m (by omega) (by omega)
      omega
  · intro x x1 x2
    obtain ⟨s, s1, s2, s3, s4⟩ := h.near (t := m) (u := x) (by omega) (by omega)
    by_cases c : m + 1 < s
    · have := s2 (m + 1) (by omega) c
      omega
    · rw [s3 (m + 1) (by omega) (by omega)]
theorem insts_self (T : Int) : T ∈ insts z (T + off z T) := (insts_mem h).2 rfl
theorem insts_one {rd T : Int} (e : insts z rd = [T]) : T + off z T = rd := (insts_mem h).1 (by rw [e]; simp)
theorem at_valid {T : Int} {t : Tm} (e : at_ w z T = some t) : IsTm w z t ∧ t.1 = T + off z T := by
  unfold at_ at e
  have s := insts_self h T
  have l2 := h.le2 (T + off z T)
  split at e
  · cases e
  next c =>
    cases e
    refine ⟨?_, rfl⟩
    unfold IsTm times
    match q : insts z (T + off z T) with
    | [] => rw [q] at s; cases s
    | [a] =>
      rw [q] at s
      have : T = a := by simpa using s
      subst this
      simp
    | [a, b] =>
      simp only [List.length_cons, List.length_nil, if_true]
      rw [q] at c
      cases hf : w.fold with
      | both =>
        simp only [List.head?_cons, Option.getD_some]
        split <;> simp
      | first => simp
      | refuse => exact (c ⟨rfl, hf⟩).elim
      | second => simp
    | a :: b :: c :: l => rw [q] at l2; simp at l2
theorem read_valid {rd : Int} {t : Tm} (e : read_ w z rd = some t) : IsTm w z t := by
  unfold read_ at e
  have l2 := h.le2 rd
  split at e
  next c =>
    cases hg : w.gap with
    | shift =>
      rw [hg] at e
      exact (at_valid h e).1
    | refuse => rw [hg] at e; cases e
    | keep =>
      rw [hg] at e
      cases e
      unfold IsTm times
      show (rd, 0) ∈ _
      rw [c, hg]
      simp
  next c =>
    split at e
    · cases e
    next c2 =>
      cases e
      unfold IsTm times
      show (rd, 0) ∈ (if (insts z rd).length = 2 then _ else _)
      match q : insts z rd with
      | [] => exact (c q).elim
      | [a] => simp
      | [a, b] =>
        rw [q] at c2
        simp only [List.length_cons, List.length_nil, if_true]
        cases hf : w.fold with
        | both => simp
        | first => simp
        | refuse => exact (c2 ⟨hf, rfl⟩).elim
        | second => simp
      | a :: b :: c :: l => rw [q] at l2; simp at l2
theorem add_valid {o : Option Tm} {d : Int} {t : Tm} (e : addT w z o d = some t) : IsTm w z t := by
  cases o with
  | none => cases e
  | some u =>
    unfold addT at e
    simp only at e
    split at e
    · exact read_valid h e
    · exact (at_valid h e).1
end
/-- the passes of a time -/
theorem IsTm.pass {w : Way} {z : Zone} {t : Tm} (q : IsTm w z t) : t.2 = 0 ∨ (t.2 = 1 ∧ w.fold = .both ∧ (insts z t.1).length = 2) := by
  unfold IsTm times at q
  obtain ⟨r, p⟩ := t
  simp only at q ⊢
  split at q
  next c =>
    cases hf : w.fold <;> rw [hf] at q <;> simp at q
    · rcases q with q | q
      · exact .inl q
      · exact .inr ⟨q, rfl, c⟩
    · exact .inl q
    · exact .inl q
  · split at q
    · simp at q
      exact .inl q
    · cases q
theorem inst_near {w : Way} {z : Zone} (h : OkZ z) {t : Tm} (q : IsTm w z t) : t.1 - 20 ≤ inst w z t ∧ inst w z t ≤ t.1 + 20 := by
  unfold inst
  split
  next c =>
    unfold before
    have := h.offs (maxB z t.1)
    omega
  next c =>
    have near : ∀ k ∈ insts z t.1, t.1 - 20 ≤ k ∧ k ≤ t.1 + 20 := fun k hk => by
      have := (insts_mem h).1 hk
      have := h.offs k
      omega
    split
    next c2 =>
      cases e : (insts z t.1).getLast? with
      | none => rw [List.getLast?_eq_none_iff] at e; exact (c e).elim
      | some m => exact near m (List.mem_of_getLast? e)
    next c2 =>
      have lt : t.2.toNat < (insts z t.1).length := by
        have c3 : 0 < (insts z t.1).length := List.length_pos_iff.mpr c
        rcases q.pass with p | p
        · rw [p]; exact c3
        · rw [p.1, p.2.2]; decide
      rw [List.getElem?_eq_getElem lt]
      exact near _ (List.getElem_mem lt)
/-- round a change -/
theorem OkZ.chart {z : Zone} (h : OkZ z) {s : Int} (ne : off z s ≠ off z (s - 1)) :
    (∀ x, s - 12 ≤ x → x < s → off z x = off z (s - 1)) ∧ (∀ x, s ≤ x → x ≤ s + 11 → off z x = off z s) ∧ off z s - off z (s - 1) ≤ 3 ∧ off z (s - 1) - off z s ≤ 3 := by
  refine ⟨fun x x1 x2 => ?_, fun x x1 x2 => ?_, ?_⟩
  · obtain ⟨r, r1, r2, r3, r4⟩ := h.near (t := x) (u := s) (by omega) (by omega)
    by_cases c : s - 1 < r
    · rw [r2 (s - 1) (by omega) c]
    · have := r3 (s - 1) (by omega) (by omega)
      omega
  · obtain ⟨r, r1, r2, r3, r4⟩ := h.near (t := s - 1) (u := x) (by omega) (by omega)
    by_cases c : s < r
    · have := r2 s (by omega) c
      omega
    · rw [r3 s (by omega) (by omega)]
  · have := h.near3 (t := s - 1) (u := s) (by omega) (by omega)
    omega
/-- the one instant of a reading -/
theorem OkZ.one {z : Zone} (h : OkZ z) {rd T : Int} (e : T + off z T = rd) (no : ∀ x, T - 3 ≤ x → x ≤ T + 3 → x ≠ T → x + off z x ≠ rd) : insts z rd = [T] := by
  refine rise_ext (insts_rise z rd) (by simp) fun k => ?_
  rw [insts_mem h, List.mem_singleton]
  constructor
  · intro q
    by_cases c : k = T
    · exact c
    · rcases Int.lt_or_gt_of_ne c with c1 | c1
      · have := h.back (t := k) (u := T) c1 (by omega)
        exact (no k (by omega) (by omega) c q).elim
      · have := h.back (t := T) (u := k) c1 (by omega)
        exact (no k (by omega) (by omega) c q).elim
  · intro q
    rw [q]
    exact e
/-- below a gap or a fold of a change -/
theorem OkZ.below {z : Zone} (h : OkZ z) {s : Int} (ne : off z s ≠ off z (s - 1)) : ∃ T, insts z (s - 1 + (if off z s < off z (s - 1) then off z s else off z (s - 1))) = [T] := by
  obtain ⟨c1, c2, c3, c4⟩ := h.chart ne
  split
  next c =>
    refine ⟨s - 1 + off z s - off z (s - 1), h.one ?_ fun x x1 x2 x3 x4 => ?_⟩
    · have := c1 (s - 1 + off z s - off z (s - 1)) (by omega) (by omega)
      omega
    · by_cases d : x < s
      · have := c1 x (by omega) d
        omega
      · have := c2 x (by omega) (by omega)
        omega
  next c =>
    refine ⟨s - 1, h.one rfl fun x x1 x2 x3 x4 => ?_⟩
    by_cases d : x < s
    · have := c1 x (by omega) d
      omega
    · have := c2 x (by omega) (by omega)
      omega
theorem OkZ.pair {z : Zone} (h : OkZ z) {rd a b : Int} (e : insts z rd = [a, b]) : a < b ∧ a + off z a = rd ∧ b + off z b = rd ∧ b ≤ a + 3 := by
  have r := insts_rise z rd
  have m := fun k => insts_mem h (t := rd) (k := k)
  rw [e] at r m
  simp only [List.pairwise_cons] at r
  have h1 := r.1 b (by simp)
  have e1 := (m a).1 (by simp)
  have e2 := (m b).1 (by simp)
  exact ⟨h1, e1, e2, h.back h1 (by omega)⟩
/-- of two instants with one reading one change lies between -/
theorem OkZ.fold {z : Zone} (h : OkZ z) {rd a b : Int} (e : insts z rd = [a, b]) : ∃ s, a < s ∧ s ≤ b ∧ off z s < off z (s - 1) ∧ off z a = off z (s - 1) ∧ off z b = off z s := by
  obtain ⟨p1, p2, p3, p4⟩ := h.pair e
  obtain ⟨s, s1, s2, s3, s4⟩ := h.near (t := a) (u := b) (by omega) (by omega)
  have c : s ≤ b := by
    by_cases c : s ≤ b
    · exact c
    · have := s2 b (by omega) (by omega)
      omega
  have f1 := s2 (s - 1) (by omega) (by omega)
  have f2 := s3 s (by omega) c
  exact ⟨s, s1, c, by omega, f1.symm, f2.symm⟩
theorem times_one {w : Way} {z : Zone} {rd T : Int} (e : insts z rd = [T]) : times w z rd = [(rd, 0)] := by
  unfold times
  rw [e]
  simp
theorem times_some {w : Way} {z : Zone} (h : OkZ z) (rd : Int) : ∃ i : Nat, i ≤ 8 ∧ times w z (rd - i) ≠ [] := by
  have fin : ∀ s, off z s ≠ off z (s - 1) → 0 ≤ rd - (s - 1 + (if off z s < off z (s - 1) then off z s else off z (s - 1))) → rd - (s - 1 + (if off z s < off z (s - 1) then off z s else off z (s - 1))) ≤ 8 → ∃ i : Nat, i ≤ 8 ∧ times w z (rd - i) ≠ [] := by
    intro s ne b1 b2
    obtain ⟨T, e⟩ := h.below ne
    refine ⟨(rd - (s - 1 + (if off z s < off z (s - 1) then off z s else off z (s - 1)))).toNat, by omega, ?_⟩
    rw [show rd - ((rd - (s - 1 + (if off z s < off z (s - 1) then off z s else off z (s - 1)))).toNat : Int) = s - 1 + (if off z s < off z (s - 1) then off z s else off z (s - 1)) by omega, times_one e]
    exact List.cons_ne_nil _ _
  have l2 := h.le2 rd
  match e : insts z rd with
  | [] =>
    obtain ⟨s, a, b, G⟩ := h.gap e
    have f1 := G.bef (s - 1) (by omega) (by omega)
    have f2 := G.aft s (by omega) (by omega)
    have := G.lt
    have := G.le
    have := G.lo
    have := G.hi
    refine fin s (by omega) ?_ ?_ <;> rw [if_neg (by omega)] <;> omega
  | [a] => exact ⟨0, by omega, by rw [show rd - ((0 : Nat) : Int) = rd by omega, times_one e]; exact List.cons_ne_nil _ _⟩
  | [a, b] =>
    obtain ⟨p1, p2, p3, p4⟩ := h.pair e
    obtain ⟨s, s1, s2, s3, s4, s5⟩ := h.fold e
    obtain ⟨c1, c2, c3, c4⟩ := h.chart (s := s) (by omega)
    refine fin s (by omega) ?_ ?_ <;> rw [if_pos s3] <;> omega
  | a :: b :: c :: l => rw [e] at l2; simp at l2
theorem times_rd {w : Way} {z : Zone} {rd : Int} {t : Tm} (h : t ∈ times w z rd) : t.1 = rd := by
  unfold times at h
  split at h
  · cases hf : w.fold <;> rw [hf] at h <;> simp at h
    · rcases h with h | h <;> rw [h]
    · rw [h]
    · rw [h]
  · split at h
    · simp at h
      rw [h]
    · cases h
local macro_rules | `(tactic| walk_at "m") => `(tactic| first
  | with_reducible refine g_m1 ?_
  | with_reducible refine g_isS ?_
  | with_reducible refine g_lcStr ?_
  | with_reducible refine g_join ?_
  | with_reducible refine g_js ?_
  | with_reducible refine g_jsN ?_
  | with_reducible refine g_fmt ?_
  | with_reducible refine g_callLam ?_
  | with_reducible refine g_revT ?_)

def WayV (K : PySem.W.Frag) (H : Hp) (v : V) (w : Way) : Prop := ∃ a, v = .ref a ∧ SqT K H a [.str (sumS w.ws), .str (sumS w.wo), .str (gapS w.gap), .str (foldS w.fold)]
theorem WayV.tr {K : PySem.W.Frag} {H H' : Hp} {v : V} {w : Way} (e : TrT K H H') (h : WayV K H v w) : WayV K H' v w := by
  obtain ⟨a, q, h⟩ := h
  exact ⟨a, q, e _ _ h⟩
/-- an int far from the machine's edges -/
def Sm (x : Int) : Prop := -100000000 ≤ x ∧ x ≤ 100000000
def Sn (x : Int) : Prop := -90000000 ≤ x ∧ x ≤ 90000000
theorem insts_last {z : Zone} {t : Int} (c : insts z t ≠ []) : (insts z t).getLast? = some ((insts z t).getLast?.getD 0) := by
  cases e : (insts z t).getLast? with
  | none => rw [List.getLast?_eq_none_iff] at e; exact (c e).elim
  | some m => rfl
theorem merge2 {k1 k2 : Key} {a b : V} (h : k1 ≠ k2) : mergeK [] [(k1, a), (k2, b)] = [(k1, a), (k2, b)] := by
  unfold mergeK
  simp [putK, h, h.symm]
theorem val2 {x y k : Str} {a b : V} : valV [((Sum.inr x : Key), a), (Sum.inr y, b)] (Sum.inr k : Key) = if x = k then some a else if y = k then some b else none := by
  by_cases h1 : x = k
  · rw [if_pos h1, valV_pos (by rw [h1])]
  · rw [if_neg h1, valV_neg (fun h => h1 (Sum.inr.inj h))]
    by_cases h2 : y = k
    · rw [if_pos h2, valV_pos (by rw [h2])]
    · rw [if_neg h2, valV_neg (fun h => h2 (Sum.inr.inj h)), valV_nil]
theorem val_fold {f : Fold} {a b : V} : valV [((Sum.inr ("both" : Str) : Key), a), (Sum.inr ("refuse" : Str), b)] (Sum.inr (foldS f) : Key) = (match f with | .both => some a | .refuse => some b | _ => none) := by
  rw [val2]
  cases f
  · exact if_pos rfl
  · exact (if_neg (by decide +kernel)).trans (if_neg (by decide +kernel))
  · exact (if_neg (by decide +kernel)).trans (if_pos rfl)
  · exact (if_neg (by decide +kernel)).trans (if_neg (by decide +kernel))
/-! ### promises -/
def sp_law_library (K : PySem.W.Frag) : Sp := fun vs H Q _ => ∃ ρ : Rw, vs = [.ref ρ.1] ∧ Row K H ρ ∧ ∀ v w H', Fr ρ.1 H H' → Row K H' ρ → WayV K H' v w → Q v H'
def sp_law_before (K : PySem.W.Frag) : Sp := fun vs H Q _ => ∃ (zv : V) (z : Zone) (t : Int), vs = [zv, .int t] ∧ ZV K H zv z ∧ OkZ z ∧ Sm t ∧ ∀ H', Ex H H' → Q (.int (before z t)) H'
def sp_law_times (K : PySem.W.Frag) : Sp := fun vs H Q _ => ∃ (wv zv : V) (w : Way) (z : Zone) (t : Int), vs = [wv, zv, .int t] ∧ WayV K H wv w ∧ ZV K H zv z ∧ OkZ z ∧ Sm t ∧
  ∀ p xs H', H p = none → Ex H H' → H' p = some (.lst xs) → PVs K H' xs (times w z t) → Q (.ref p) H'
def sp_law_instant (K : PySem.W.Frag) : Sp := fun vs H Q _ => ∃ (wv zv tv : V) (w : Way) (z : Zone) (t : Tm), vs = [wv, zv, tv] ∧ WayV K H wv w ∧ ZV K H zv z ∧ OkZ z ∧ PV K H tv t ∧ IsTm w z t ∧ Sm t.1 ∧ ∀ H', Ex H H' → Q (.int (inst w z t)) H'
def sp_law_at (K : PySem.W.Frag) : Sp := fun vs H Q _ => ∃ (wv zv : V) (w : Way) (z : Zone) (t : Int), vs = [wv, zv, .int t] ∧ WayV K H wv w ∧ ZV K H zv z ∧ OkZ z ∧ Sm t ∧ ∀ v H', Ex H H' → TV K H' v (at_ w z t) → Q v H'
def sp_law_read (K : PySem.W.Frag) : Sp := fun vs H Q _ => ∃ (wv zv : V) (w : Way) (z : Zone) (t : Int), vs = [wv, zv, .int t] ∧ WayV K H wv w ∧ ZV K H zv z ∧ OkZ z ∧ Sn t ∧ ∀ v H', Ex H H' → TV K H' v (read_ w z t) → Q v H'
def OkT (w : Way) (z : Zone) (o : Option Tm) : Prop := ∀ t, o = some t → IsTm w z t ∧ Sm t.1
def sp_law_add (K : PySem.W.Frag) : Sp := fun vs H Q _ => ∃ (wv zv tv : V) (w : Way) (z : Zone) (o : Option Tm) (d : Int), vs = [wv, zv, tv, .int d] ∧ WayV K H wv w ∧ ZV K H zv z ∧ OkZ z ∧ TV K H tv o ∧ OkT w z o ∧ (∀ t, o = some t → Sn (t.1 + d + 20) ∧ Sn (t.1 + d - 20)) ∧
  ∀ v H', Ex H H' → TV K H' v (addT w z o d) → Q v H'
def sp_law_less (K : PySem.W.Frag) : Sp := fun vs H Q _ => ∃ (wv zv av bv : V) (w : Way) (z : Zone) (a b : Tm), vs = [wv, zv, av, bv] ∧ WayV K H wv w ∧ ZV K H zv z ∧ OkZ z ∧ PV K H av a ∧ PV K H bv b ∧ IsTm w z a ∧ Sm a.1 ∧ IsTm w z b ∧ Sm b.1 ∧
  ∀ H', Ex H H' → Q (.int (less_ w z a b)) H'
def ordV : Option Int → V
  | none => .non
  | some i => .int i
def sp_law_order (K : PySem.W.Frag) : Sp := fun vs H Q _ => ∃ (wv zv av bv : V) (w : Way) (z : Zone) (a b : Option Tm), vs = [wv, zv, av, bv] ∧ WayV K H wv w ∧ ZV K H zv z ∧ OkZ z ∧ TV K H av a ∧ TV K H bv b ∧ OkT w z a ∧ OkT w z b ∧
  ∀ H', Ex H H' → Q (ordV (order w z a b)) H'
def sp_law_hours (K : PySem.W.Frag) : Sp := fun vs H Q _ => ∃ ρ : Rw, vs = [.ref ρ.1] ∧ Row K H ρ ∧ ∀ d H', -400 ≤ d → d ≤ 400 → Fr ρ.1 H H' → Row K H' ρ → Q (.int d) H'
def sp_law_time (K : PySem.W.Frag) : Sp := fun vs H Q _ => ∃ (ρ : Rw) (wv zv : V) (w : Way) (z : Zone), vs = [.ref ρ.1, wv, zv] ∧ Row K H ρ ∧ WayV K H wv w ∧ ZV K H zv z ∧ OkZ z ∧
  ∀ v t H', Fr ρ.1 H H' → Row K H' ρ → PV K H' v t → IsTm w z t → -3000 ≤ t.1 → t.1 ≤ 3000 → Q v H'
section
variable {P : Program} {w : World} {K : PySem.W.Frag} {mg : Str → Option Value} {base : Heap}
theorem ok_law_library (T : Txt w K mg) : FnOk P w K mg base CX0 3 T.f_law_library.f T.f_law_library.fd ["row"] (sp_law_library K) := by
  refine T.f_law_library.F.ok sc_law_library (fun vs H Q E h => ?_) (fun cdv A outer s H vs Q E hr h => ?_)
  · obtain ⟨ρ, rfl, _⟩ := h
    rfl
  obtain ⟨ρ, rfl, hR, k⟩ := h
  refine ⟨(tSeq (tPar 1 2 (tCons (tCall (sp_law_pick K) [] E0 (tCons (tVar 0) (tCons (tLst (tCons (tC (.str "elapsed")) (tCons (tC (.str "wall")) tNil))) tNil))) (tCons (tCall (sp_law_pick K) [] E0 (tCons (tVar 0) (tCons (tLst (tCons (tC (.str "elapsed")) (tCons (tC (.str "wall")) tNil))) tNil))) tNil))) (tRet (tTup (tCons (tVar 1) (tCons (tVar 2) (tCons (tCall (sp_law_pick K) [] E0 (tCons (tVar 0) (tCons (tLst (tCons (tC (.str "keep")) (tCons (tC (.str "refuse")) (tCons (tC (.str "shift")) tNil)))) tNil))) (tCons (tCall (sp_law_pick K) [] E0 (tCons (tVar 0) (tCons (tLst (tCons (tC (.str "both")) (tCons (tC (.str "first")) (tCons (tC (.str "refuse")) (tCons (tC (.str "second")) tNil))))) tNil))) tNil))))))),
    PSs.nox (pss_cons (ps_par (by rfl) sc_law_library.nd rfl rfl (by decide) rfl rfl (pa_cons (pe_call (ok_law_pick T) (hr.mono (by decide)) (by rfl) T.f_law_pick.g T.f_law_pick.F.kp T.f_law_pick.b .nil pass0 (pa_cons (pv 0) (pa_cons (pe_lst (pa_cons pe_str (pa_cons pe_str pa_nil))) pa_nil))) (pa_cons (pe_call (ok_law_pick T) (hr.mono (by decide)) (by rfl) T.f_law_pick.g T.f_law_pick.F.kp T.f_law_pick.b .nil pass0 (pa_cons (pv 0) (pa_cons (pe_lst (pa_cons pe_str (pa_cons pe_str pa_nil))) pa_nil))) pa_nil)) (by rfl)) (pss_one (ps_ret (pe_tup (pa_cons (pv 1) (pa_cons (pv 2) (pa_cons (pe_call (ok_law_pick T) (hr.mono (by decide)) (by rfl) T.f_law_pick.g T.f_law_pick.F.kp T.f_law_pick.b .nil pass0 (pa_cons (pv 0) (pa_cons (pe_lst (pa_cons pe_str (pa_cons pe_str (pa_cons pe_str pa_nil)))) pa_nil))) (pa_cons (pe_call (ok_law_pick T) (hr.mono (by decide)) (by rfl) T.f_law_pick.g T.f_law_pick.F.kp T.f_law_pick.b .nil pass0 (pa_cons (pv 0) (pa_cons (pe_lst (pa_cons pe_str (pa_cons pe_str (pa_cons pe_str (pa_cons pe_str pa_nil))))) pa_nil))) pa_nil)))))))), ?_⟩
  walk_at "gg"
  refine g_newL (by simp) fun l1 H1 n1 e1 h1 => ?_
  walk_at "gg"
  obtain ⟨_, q0⟩ := hR.lst
  refine ⟨ρ, _, _, rfl, hR.ex e1, h1, (ne_of_none q0 n1).symm, by simp, by simp, fun x H2 m2 e2 R2 => ?_⟩
  walk_at "gg"
  refine g_newL (by simp) fun l3 H3 n3 e3 h3 => ?_
  walk_at "gg"
  obtain ⟨_, q2⟩ := R2.lst
  refine ⟨ρ, _, _, rfl, R2.ex e3, h3, (ne_of_none q2 n3).symm, by simp, by simp, fun y H4 m4 e4 R4 => ?_⟩
  walk_at "gg"
  refine g_newL (by simp) fun l5 H5 n5 e5 h5 => ?_
  walk_at "gg"
  obtain ⟨_, q4⟩ := R4.lst
  refine ⟨ρ, _, _, rfl, R4.ex e5, h5, (ne_of_none q4 n5).symm, by simp, by simp, fun u H6 m6 e6 R6 => ?_⟩
  walk_at "gg"
  refine g_newL (by simp) fun l7 H7 n7 e7 h7 => ?_
  walk_at "gg"
  obtain ⟨_, q6⟩ := R6.lst
  refine ⟨ρ, _, _, rfl, R6.ex e7, h7, (ne_of_none q6 n7).symm, by simp, by simp, fun v H8 m8 e8 R8 => ?_⟩
  walk_at "gg"
  refine g_newT (by simp) fun t9 H9 n9 e9 h9 => ?_
  obtain ⟨b1, rfl⟩ : ∃ b, x = .str (sumS b) := by
    simp only [List.mem_cons, List.not_mem_nil, or_false] at m2
    rcases m2 with rfl | rfl
    · exact ⟨false, rfl⟩
    · exact ⟨true, rfl⟩
  obtain ⟨b2, rfl⟩ : ∃ b, y = .str (sumS b) := by
    simp only [List.mem_cons, List.not_mem_nil, or_false] at m4
    rcases m4 with rfl | rfl
    · exact ⟨false, rfl⟩
    · exact ⟨true, rfl⟩
  obtain ⟨b3, rfl⟩ : ∃ b, u = .str (gapS b) := by
    simp only [List.mem_cons, List.not_mem_nil, or_false] at m6
    rcases m6 with rfl | rfl | rfl
    · exact ⟨.keep, rfl⟩
    · exact ⟨.refuse, rfl⟩
    · exact ⟨.shift, rfl⟩
  obtain ⟨b4, rfl⟩ : ∃ b, v = .str (foldS b) := by
    simp only [List.mem_cons, List.not_mem_nil, or_false] at m8
    rcases m8 with rfl | rfl | rfl | rfl
    · exact ⟨.both, rfl⟩
    · exact ⟨.first, rfl⟩
    · exact ⟨.refuse, rfl⟩
    · exact ⟨.second, rfl⟩
  refine k _ ⟨b1, b2, b3, b4⟩ H9 ?_ (R8.ex e9) ⟨t9, rfl, SqT.of h9⟩
  exact ((((Fr.of e1).trans e2).trans (Fr.of e3)).trans e4).trans ((((Fr.of e5).trans e6).trans (Fr.of e7)).trans (e8.trans (Fr.of e9)))
theorem ok_law_times (T : Txt w K mg) : FnOk P w K mg base CX0 3 T.f_law_times.f T.f_law_times.fd ["way", "zone", "reading"] (sp_law_times K) := by
  refine T.f_law_times.F.ok sc_law_times (fun vs H Q E h => ?_) (fun cdv A outer s H vs Q E hr h => ?_)
  · obtain ⟨wv, zv, w, z, t, rfl, _⟩ := h
    rfl
  obtain ⟨wv, zv, w, z, t, rfl, ⟨wa, rfl, hw⟩, hv, hz, b1, k⟩ := h
  unfold Sm at b1
  unfold times at k
  refine ⟨(tSeq (tAsg (tCB (Evl.rLenS K) (tCons (tCall (sp_law_instants K) [] E0 (tCons (tVar 1) (tCons (tVar 2) tNil))) tNil)) (gName 3)) (tSeq (tIfS (tTest (tOp rEq (tVar 3) (tC (.int 2)))) (tRet (tDGet2 (tDisp [((tC (.str "both")), (tLst (tCons (tTup (tCons (tVar 2) (tCons (tC (.int 0)) tNil))) (tCons (tTup (tCons (tVar 2) (tCons (tC (.int 1)) tNil))) tNil)))), ((tC (.str "refuse")), (tLst tNil))]) (tOp (rIxT K) (tVar 0) (tC (.int 3))) (tLst (tCons (tTup (tCons (tVar 2) (tCons (tC (.int 0)) tNil))) tNil)))) tNext) (tRet (tIf (tOr (tTest (tOp rEq (tVar 3) (tC (.int 1)))) (tTest (tOp rEq (tOp (rIxT K) (tVar 0) (tC (.int 2))) (tC (.str "keep"))))) (tLst (tCons (tTup (tCons (tVar 2) (tCons (tC (.int 0)) tNil))) tNil)) (tLst tNil))))),
    PSs.nox (pss_cons (ps_set (i := 3) sc_law_times.nd rfl (Or.inl rfl) (pe_callB call_len_seq (by rfl) T.z_len (by decide +kernel) (pa_cons (pe_call (ok_law_instants T) (hr.mono (by decide)) (by rfl) T.f_law_instants.g T.f_law_instants.F.kp T.f_law_instants.b .nil pass0 (pa_cons (pv 1) (pa_cons (pv 2) pa_nil))) pa_nil))) (pss_cons (ps_if (pt_cmpR op_eq (pv 3) pe_int (nomark _)) (pss_one (ps_ret (pe_dget2 (hu_of hr) (pe_disp (pps_cons pe_str (pe_lst (pa_cons (pe_tup (pa_cons (pv 2) (pa_cons pe_int pa_nil))) (pa_cons (pe_tup (pa_cons (pv 2) (pa_cons pe_int pa_nil))) pa_nil))) (pps_cons pe_str (pe_lst pa_nil) pps_nil)) (by rfl) (by rfl) (fun z => by cases z) (by decide)) (pe_ix ix_tup (pv 0) pe_int (fun _ _ => rfl)) (pe_lst (pa_cons (pe_tup (pa_cons (pv 2) (pa_cons pe_int pa_nil))) pa_nil)) ⟨by rfl, by rfl, by rfl, by rfl⟩))) pss_nil) (pss_one (ps_ret (pe_ifExp (PW.pt (pw_or (pt_cmpR op_eq (pv 3) pe_int (nomark _)) (pw_or1 (pt_cmpR op_eq (pe_ix ix_tup (pv 0) pe_int (fun _ _ => rfl)) pe_str (nomark _))))) (pe_lst (pa_cons (pe_tup (pa_cons (pv 2) (pa_cons pe_int pa_nil))) pa_nil)) (pe_lst pa_nil)))))), ?_⟩
  walk_at "gg"
  refine ⟨_, _, _, rfl, hv, hz, by omega, by omega, fun p H1 n1 e1 h1 => ?_⟩
  walk_at "gg"
  refine g_lenL (SqL.of h1) ?_
  rw [List.length_map]
  walk_at "gg"
  refine if_d (fun c => ?_) (fun c => ?_)
  · rw [if_pos (by omega)] at k
    walk_at "gg"
    refine g_disp fun d H2 n2 e2 h2 => ?_
    walk_at "gg"
    refine g_newT (by simp) fun t3 H3 n3 e3 h3 => ?_
    walk_at "gg"
    refine g_newT (by simp) fun t4 H4 n4 e4 h4 => ?_
    walk_at "gg"
    refine g_newL (by simp) fun l5 H5 n5 e5 h5 => ?_
    walk_at "gg"
    refine g_newL (by simp) fun l6 H6 n6 e6 h6 => ?_
    walk_at "gg"
    refine g_dispEnd [((Sum.inr "both" : Key), V.ref l5), (Sum.inr "refuse", V.ref l6)] (H0 := H1) n2 (((e2.trans e3).trans e4).trans (e5.trans e6)) (e6 _ _ (e5 _ _ (e4 _ _ (e3 _ _ h2)))) rfl (by simp) fun H7 e7 f7 h7 => ?_
    refine g_isD h7 ?_
    have d6 := e6 _ _ (e5 _ _ (e4 _ _ (e3 _ _ h2)))
    have h53 : H7 l5 = some (.lst [V.ref t3, V.ref t4]) := f7 _ _ (ne_of (e6 _ _ h5) d6 (fun z => nomatch z)) (e6 _ _ h5)
    have h63 : H7 l6 = some (.lst []) := f7 _ _ (ne_of h6 d6 (fun z => nomatch z)) h6
    have g3 := e6 _ _ (e5 _ _ (e4 _ _ h3))
    have g4 := e6 _ _ (e5 _ _ h4)
    have h33 : H7 t3 = some (.tup [V.int t, V.int 0]) := f7 _ _ (ne_of g3 d6 (fun z => nomatch z)) g3
    have h43 : H7 t4 = some (.tup [V.int t, V.int 1]) := f7 _ _ (ne_of g4 d6 (fun z => nomatch z)) g4
    have back : ∀ l : Addr, H1 l = none → H l = none := fun l q => Evl.fresh_back e1 q
    walk_at "gg"
    refine g_newT (by simp) fun t8 H8 n8 e8 h8 => ?_
    walk_at "gg"
    refine g_newL (by simp) fun l9 H9 n9 e9 h9 => ?_
    refine g_dgetR (e9 _ _ (e8 _ _ h7)) ?_
    have nbr : ¬ (Sum.inr ("both" : Str) : Key) = Sum.inr ("refuse" : Str) := by decide +kernel
    rw [merge2 nbr]
    have e09 : Ex H H9 := e1.trans (e7.trans (e8.trans e9))
    have e79 : Ex H7 H9 := e8.trans e9
    have n15 : H l5 = none := back _ (Evl.fresh_back ((e2.trans e3).trans e4) n5)
    have n16 : H l6 = none := back _ (Evl.fresh_back (((e2.trans e3).trans e4).trans e5) n6)
    have n19 : H l9 = none := back _ (Evl.fresh_back (e7.trans e8) n9)
    rw [val_fold]
    cases hf : w.fold with
    | both =>
      rw [hf] at k
      exact k l5 _ H9 n15 e09 (e79 _ _ h53) (.cons ⟨t3, rfl, SqT.of (e79 _ _ h33)⟩ (.cons ⟨t4, rfl, SqT.of (e79 _ _ h43)⟩ .nil))
    | first =>
      rw [hf] at k
      exact k l9 _ H9 n19 e09 h9 (.cons ⟨t8, rfl, SqT.of (e9 _ _ h8)⟩ .nil)
    | refuse =>
      rw [hf] at k
      exact k l6 _ H9 n16 e09 (e79 _ _ h63) .nil
    | second =>
      rw [hf] at k
      exact k l9 _ H9 n19 e09 h9 (.cons ⟨t8, rfl, SqT.of (e9 _ _ h8)⟩ .nil)
  · rw [if_neg (by omega)] at k
    walk_at "gg"
    have one : ∀ H2, Ex H1 H2 → (if (insts z t).length = 1 ∨ w.gap = .keep then [(t, 0)] else []) = [(t, (0 : Int))] → NewT [V.int t, V.int 0] H2 fun x H3 => NewL [x] H3 Q := by
      intro H2 e2 ek
      rw [ek] at k
      refine g_newT (by simp) fun t3 H3 n3 e3 h3 => ?_
      refine g_newL (by simp) fun l4 H4 n4 e4 h4 => ?_
      exact k l4 _ H4 (Evl.fresh_back ((e1.trans e2).trans e3) n4) (((e1.trans e2).trans e3).trans e4) h4 (.cons ⟨t3, rfl, SqT.of (e4 _ _ h3)⟩ .nil)
    refine if_d (fun c2 => ?_) (fun c2 => ?_)
    · walk_at "gg"
      exact one _ (Evl.Ex.refl _) (if_pos (.inl (by omega)))
    · walk_at "gg"
      rw [gap_keep]
      refine if_d (fun c3 => ?_) (fun c3 => ?_)
      · walk_at "gg"
        exact one _ (Evl.Ex.refl _) (if_pos (.inr c3))
      · walk_at "gg"
        rw [if_neg (by intro q; rcases q with q | q; exact c2 (by omega); exact c3 q)] at k
        refine g_newL (by simp) fun l4 H4 n4 e4 h4 => ?_
        exact k l4 _ H4 (Evl.fresh_back e1 n4) (e1.trans e4) h4 .nil
theorem ok_law_hours (T : Txt w K mg) : FnOk P w K mg base CX0 3 T.f_law_hours.f T.f_law_hours.fd ["row"] (sp_law_hours K) := by
  refine T.f_law_hours.F.ok sc_law_hours (fun vs H Q E h => ?_) (fun cdv A outer s H vs Q E hr h => ?_)
  · obtain ⟨ρ, rfl, _⟩ := h
    rfl
  obtain ⟨ρ, rfl, hR, k⟩ := h
  refine ⟨(tRet (tCall (sp_law_pick K) [] E0 (tCons (tVar 0) (tCons (tLst (tCons (tC (.int 1)) (tCons (tC (.int 2)) (tCons (tC (.int 3)) (tCons (tOp (rI0 fun i j => .int (i - j)) (tC (.int 0)) (tC (.int 1))) (tCons (tOp (rI0 fun i j => .int (i - j)) (tC (.int 0)) (tC (.int 2))) (tCons (tOp (rI0 fun i j => .int (i - j)) (tC (.int 0)) (tC (.int 3))) (tCons (tC (.int 24)) (tCons (tOp (rI0 fun i j => .int (i - j)) (tC (.int 0)) (tC (.int 24))) (tCons (tC (.int 0)) (tCons (tOp (rI0 fun i j => .int (i - j)) (tCall (sp_law_taken K) [] E0 (tCons (tVar 0) (tCons (tC (.int 31)) tNil))) (tC (.int 15))) (tCons (tOp (rI0 fun i j => .int (i - j)) (tCall (sp_law_taken K) [] E0 (tCons (tVar 0) (tCons (tC (.int 801)) tNil))) (tC (.int 400))) tNil)))))))))))) tNil)))),
    PSs.nox (pss_one (ps_ret (pe_call (ok_law_pick T) (hr.mono (by decide)) (by rfl) T.f_law_pick.g T.f_law_pick.F.kp T.f_law_pick.b .nil pass0 (pa_cons (pv 0) (pa_cons (pe_lst (pa_cons pe_int (pa_cons pe_int (pa_cons pe_int (pa_cons (pe_op op_sub pe_int pe_int) (pa_cons (pe_op op_sub pe_int pe_int) (pa_cons (pe_op op_sub pe_int pe_int) (pa_cons pe_int (pa_cons (pe_op op_sub pe_int pe_int) (pa_cons pe_int (pa_cons (pe_op op_sub (pe_call (ok_law_taken T) (hr.mono (by decide)) (by rfl) T.f_law_taken.g T.f_law_taken.F.kp T.f_law_taken.b .nil pass0 (pa_cons (pv 0) (pa_cons pe_int pa_nil))) pe_int) (pa_cons (pe_op op_sub (pe_call (ok_law_taken T) (hr.mono (by decide)) (by rfl) T.f_law_taken.g T.f_law_taken.F.kp T.f_law_taken.b .nil pass0 (pa_cons (pv 0) (pa_cons pe_int pa_nil))) pe_int) pa_nil)))))))))))) pa_nil))))), ?_⟩
  walk_at "gg"
  refine ⟨ρ, _, rfl, hR, by omega, by omega, fun v1 H1 p1 q1 e1 R1 => ?_⟩
  walk_at "gg"
  refine ⟨ρ, _, rfl, R1, by omega, by omega, fun v2 H2 p2 q2 e2 R2 => ?_⟩
  walk_at "gg"
  refine g_newL (by simp) fun l3 H3 n3 e3 h3 => ?_
  walk_at "gg"
  obtain ⟨_, qq⟩ := R2.lst
  refine ⟨ρ, _, _, rfl, R2.ex e3, h3, (ne_of_none qq n3).symm, by simp, by simp, fun x H4 m4 e4 R4 => ?_⟩
  obtain ⟨gp, rfl, g0, g1⟩ : ∃ gp : Int, x = .int gp ∧ -400 ≤ gp ∧ gp ≤ 400 := by
    simp only [List.mem_cons, List.not_mem_nil, or_false] at m4
    rcases m4 with rfl | rfl | rfl | rfl | rfl | rfl | rfl | rfl | rfl | rfl | rfl <;> exact ⟨_, rfl, by omega, by omega⟩
  exact k gp H4 g0 g1 (((e1.trans e2).trans (Fr.of e3)).trans e4) R4
theorem ok_law_time (T : Txt w K mg) : FnOk P w K mg base CX0 4 T.f_law_time.f T.f_law_time.fd ["row", "way", "zone"] (sp_law_time K) := by
  refine T.f_law_time.F.ok sc_law_time (fun vs H Q E h => ?_) (fun cdv A outer s H vs Q E hr h => ?_)
  · obtain ⟨ρ, wv, zv, w, z, rfl, _⟩ := h
    rfl
  obtain ⟨ρ, wv, zv, w, z, rfl, hR, hwv, hv, hz, k⟩ := h
  refine ⟨(tSeq (tAsg (tCall (sp_law_spot K) [] E0 (tCons (tVar 0) (tCons (tVar 2) tNil))) (gName 3)) (tSeq (tFor (iRng1 (tCons (tC (.int 9)) tNil)) (gName 4) (tSeq (tAsg (tCall (sp_law_times K) [] E0 (tCons (tVar 1) (tCons (tVar 2) (tCons (tOp (rI0 fun i j => .int (i - j)) (tVar 3) (tVar 4)) tNil)))) (gName 5)) (tIfS (tTest (tOp (rNeD K) (tVar 5) (tLst tNil))) (tRet (tOp (rIxL K) (tVar 5) (tCall (sp_law_taken K) [] E0 (tCons (tVar 0) (tCons (tCB (Evl.rLenS K) (tCons (tVar 5) tNil)) tNil))))) tNext))) (tRet (tTup (tCons (tOp (rI0 fun i j => .int (i - j)) (tVar 3) (tC (.int 900))) (tCons (tC (.int 0)) tNil)))))),
    PSs.nox (pss_cons (ps_set (i := 3) sc_law_time.nd rfl (Or.inl rfl) (pe_call (ok_law_spot T) (hr.mono (by decide)) (by rfl) T.f_law_spot.g T.f_law_spot.F.kp T.f_law_spot.b .nil pass0 (pa_cons (pv 0) (pa_cons (pv 2) pa_nil)))) (pss_cons (ps_for PassesOwn.never rfl (pi_range1 (by rfl) T.z_range (pa_cons pe_int pa_nil)) (pg_name (i := 4) sc_law_time.nd rfl (Or.inl rfl)) (pss_cons (ps_set (i := 5) sc_law_time.nd rfl (Or.inl rfl) (pe_call (ok_law_times T) (hr.mono (by decide)) (by rfl) T.f_law_times.g T.f_law_times.F.kp T.f_law_times.b .nil pass0 (pa_cons (pv 1) (pa_cons (pv 2) (pa_cons (pe_op op_sub (pv 3) (pv 4)) pa_nil))))) (pss_one (ps_if (pt_cmpR (op_neD hr.units) (pv 5) (pe_lst pa_nil) (nomark _)) (pss_one (ps_ret (pe_ix ix_list (pv 5) (pe_call (ok_law_taken T) (hr.mono (by decide)) (by rfl) T.f_law_taken.g T.f_law_taken.F.kp T.f_law_taken.b .nil pass0 (pa_cons (pv 0) (pa_cons (pe_callB call_len_seq (by rfl) T.z_len (by decide +kernel) (pa_cons (pv 5) pa_nil)) pa_nil))) (fun _ _ => rfl)))) pss_nil)))) (pss_one (ps_ret (pe_tup (pa_cons (pe_op op_sub (pv 3) pe_int) (pa_cons pe_int pa_nil))))))), ?_⟩
  walk_at "gg"
  refine ⟨ρ, _, _, rfl, hR, hv, hz, fun rd H1 p1 q1 f1 R1 => ?_⟩
  walk_at "gg"
  refine g_forR (by omega) (by omega) (fun i σ' H' => Fr ρ.1 H H' ∧ Row K H' ρ ∧ (∀ j : Nat, j < i → times w z (rd - j) = []) ∧ ∃ s0 m0, σ' = [some (.ref ρ.1), some wv, some zv, some (.int rd), s0, m0]) ⟨f1, R1, fun j hj => by omega, _, _, rfl⟩ ?_ ?_
  · rintro i σ' H2 hi ⟨f2, R2, none_, s0, m0, rfl⟩
    have t2 := hR.tr f2
    walk_at "gg"
    refine ⟨_, _, _, _, _, rfl, hwv.tr t2, hv.tr t2, hz, by unfold Sm; omega, fun p3 xs H3 n3 e3 h3 P3 => ?_⟩
    walk_at "gg"
    refine g_newL (by simp) fun l4 H4 n4 e4 h4 => ?_
    have P4 := P3.tr (TrT.of e4)
    have h34 := e4 _ _ h3
    have hle : (times w z (rd - (i : Int))).length ≤ 2 := by
      unfold times
      split
      · cases w.fold <;> simp
      · split <;> simp
    have e24 := e3.trans e4
    have ne : rNeD K (.ref p3) (.ref l4) H4 = fun Q' => rNeD K (.ref p3) (.ref l4) H4 Q' := rfl
    refine ⟨.list ((times w z (rd - (i : Int))).map fun t => .tuple [.int t.1, .int t.2]), .list [], .lst (SqL.of h34) (pd_dpAll (pd_map (fun _ _ q => dp_pair q) P4)), .lst (SqL.of h4) .nil, sh_ok (n := 2) (sh_list ?_) (by omega), sh_ok (n := 1) (sh_list (by simp)) (by omega), ?_⟩
    · intro x hx
      obtain ⟨t, _, rfl⟩ := List.mem_map.mp hx
      refine sh_tup fun y hy => ?_
      simp only [List.mem_cons, List.not_mem_nil, or_false] at hy
      rcases hy with rfl | rfl <;> exact sh_int
    have ee : PyData.eqv (.list ((times w z (rd - (i : Int))).map fun t => .tuple [.int t.1, .int t.2])) (.list []) = decide (times w z (rd - (i : Int)) = []) := by
      show PyData.eqvAll _ [] = _
      rw [eqvAll_nil]
      cases times w z (rd - (i : Int)) <;> rfl
    rw [ee]
    walk_at "gg"
    refine if_nd (fun c => ?_) (fun c => ?_)
    · walk_at "gg"
      refine g_lenL (SqL.of h34) ?_
      walk_at "gg"
      have len := P4.len
      have pos : 0 < (times w z (rd - (i : Int))).length := List.length_pos_iff.mpr c
      refine ⟨ρ, _, rfl, R2.ex e24, by omega, by omega, fun v5 H5 p5 q5 e5 R5 => ?_⟩
      have lt : v5.toNat < xs.length := by omega
      have nr : p3 ≠ ρ.1 := by
        obtain ⟨_, qq⟩ := R2.lst
        exact (ne_of_none qq n3).symm
      refine g_ixL (SqL.of (e5 _ _ nr h34)) (atI_of p5 (List.getElem?_eq_getElem lt)) ?_
      obtain ⟨t, ht, hp⟩ := pd_get P4 (List.getElem?_eq_getElem lt)
      have mt := List.mem_of_getElem? ht
      have er := times_rd mt
      refine k _ t H5 ((f2.trans (Fr.of e24)).trans e5) R5 (hp.tr ((R2.ex e24).tr e5)) ?_ (by omega) (by omega)
      unfold IsTm
      rw [er]
      exact mt
    · walk_at "gg"
      refine ⟨f2.trans (Fr.of e24), R2.ex e24, fun j hj => ?_, _, _, rfl⟩
      by_cases cj : j = i
      · rw [cj]
        exact c
      · exact none_ j (by omega)
  · rintro σ' H2 ⟨f2, R2, none_, s0, m0, rfl⟩
    obtain ⟨i, hi, ne⟩ := times_some (w := w) hz rd
    exact (ne (none_ i (by omega))).elim
end
local macro_rules | `(tactic| walk_at "m") => `(tactic| first
  | with_reducible refine g_m1 ?_
  | with_reducible refine g_isS ?_
  | with_reducible refine g_lcStr ?_
  | with_reducible refine g_join ?_
  | with_reducible refine g_js ?_
  | with_reducible refine g_jsN ?_
  | with_reducible refine g_fmt ?_
  | with_reducible refine g_callLam ?_
  | with_reducible refine g_revT ?_)

theorem g_slT {K : PySem.W.Frag} {a : Addr} {xs ys : List V} {k : Nat} {H : Hp} {Q : VK} (q : SqT K H a xs) (k1 : 0 < k) (k2 : k ≤ xs.length) (e : xs.drop k = ys) (h : ∀ p H', H p = none → Ex H H' → H' p = some (.tup ys) → Q (.ref p) H') :
    rSlT K (.ref a) (some (k : Int)) none H Q := by
  have e1 : HT.sIx xs.length 0 (some (k : Int)) = k := by
    rw [HT.sIx_nat]
    omega
  refine ⟨a, xs, rfl, q, ?_, fun p hp => ?_⟩
  · rw [e1]
    omega
  · have c : cutV xs (some (k : Int)) none = ys := by
      unfold cutV
      rw [e1, HT.sIx_none, ← e, List.take_of_length_le (by rw [List.length_drop]; omega)]
    rw [c]
    exact h p _ hp (Evl.Ex.new hp) upd_same
theorem g_slice {r : V → Option Int → Option Int → Hp → VK → Prop} {te : TE} {k : Int} {σ : St} {H : Hp} {Q : VK} (h : te σ H fun x H1 => r x (some k) none H1 Q) : tSl r te (tPart (tC (.int k))) tNoPart σ H Q := by
  have m : (fun x H1 => r x (some k) none H1 Q) = fun x H1 => tPart (tC (.int k)) σ H1 fun l H2 => tNoPart σ H2 fun u H3 => r x l u H3 Q := by
    funext x H1
    refine propext ⟨fun q => ⟨k, rfl, q⟩, fun q => ?_⟩
    obtain ⟨i, e, q⟩ := q
    cases e
    exact q
  rw [m] at h
  exact h
theorem g_ixD {K : PySem.W.Frag} {w : World} {a : Addr} {x : Str} {v : V} {H : Hp} {Q : VK} (d : KDct K w a x v) (h : Q v H) : rIxD K w (.ref a) (.str x) H Q := ⟨a, x, v, rfl, rfl, d, h⟩
/-! ### promises -/
def sp_is_library (K : PySem.W.Frag) : Sp := fun vs H Q _ => ∃ (wv : V) (w : Way), vs = [wv] ∧ WayV K H wv w ∧ Q (.bl true) H
def sp_check_library (K : PySem.W.Frag) : Sp := fun vs H Q _ => ∃ (wv : V) (w : Way), vs = [wv] ∧ WayV K H wv w ∧ Q .non H
def sp_passes_at (K : PySem.W.Frag) : Sp := fun vs H Q _ => ∃ (wv zv : V) (w : Way) (z : Zone) (t : Int), vs = [wv, zv, .int t] ∧ WayV K H wv w ∧ ZV K H zv z ∧ OkZ z ∧ (insts z t).length ≤ 2 ∧
  ∀ p H', Ex H H' → SqT K H' p ((times w z t).map fun x => .int x.2) → Q (.ref p) H'
section
variable {P : Program} {w : World} {K : PySem.W.Frag} {mg : Str → Option Value} {base : Heap}
theorem ok_is_library (T : Txt w K mg) : FnOk P w K mg base CX0 2 T.f_is_library.f T.f_is_library.fd ["value"] (sp_is_library K) := by
  refine T.f_is_library.F.ok sc_is_library (fun vs H Q E h => ?_) (fun cdv A outer s H vs Q E hr h => ?_)
  · obtain ⟨wv, w, rfl, _⟩ := h
    rfl
  obtain ⟨wv, w, rfl, ⟨a, rfl, hw⟩, k⟩ := h
  refine ⟨(tSeq (tIfS (tNot (tB (tCall (sp_is_tuple_of K) [] E0 (tCons (tC (.int 4)) (tCons (tVar 0) tNil))))) (tRet (tC (.bl false))) tNext) (tSeq (tAsg (tVar 0) (gTup K 4 (gCons (gName 1) (gCons (gName 2) (gCons (gName 3) (gCons (gName 4) gNil)))))) (tRet (tAndV (tOp (rIn K false) (tVar 1) (tC (.ref T.a_SUMS))) (tAndV (tOp (rIn K false) (tVar 2) (tC (.ref T.a_ORDERS))) (tAndV (tOp (rIn K false) (tVar 3) (tC (.ref T.a_GAPS))) (tOp (rIn K false) (tVar 4) (tC (.ref T.a_FOLDS))))))))),
    PSs.nox (pss_cons (ps_if (pt_not (pt_val (pe_call (ok_is_tuple_of T) (hr.mono (by decide)) (by rfl) T.f_is_tuple_of.g T.f_is_tuple_of.F.kp T.f_is_tuple_of.b .nil pass0 (pa_cons pe_int (pa_cons (pv 0) pa_nil))))) (pss_one (ps_ret pe_bl)) pss_nil) (pss_cons (ps_asg (pv 0) (pg_tup rfl (pgs_cons (pg_name (i := 1) sc_is_library.nd rfl (Or.inl rfl)) (pgs_cons (pg_name (i := 2) sc_is_library.nd rfl (Or.inl rfl)) (pgs_cons (pg_name (i := 3) sc_is_library.nd rfl (Or.inl rfl)) (pgs_cons (pg_name (i := 4) sc_is_library.nd rfl (Or.inl rfl)) pgs_nil)))))) (pss_one (ps_ret (pe_and (pe_cmpR op_in_seq (pv 1) (pe_glob (by rfl) T.c_SUMS rfl) (by rfl)) (pe_and (pe_cmpR op_in_seq (pv 2) (pe_glob (by rfl) T.c_ORDERS rfl) (by rfl)) (pe_and (pe_cmpR op_in_seq (pv 3) (pe_glob (by rfl) T.c_GAPS rfl) (by rfl)) (pe_one (pe_cmpR op_in_seq (pv 4) (pe_glob (by rfl) T.c_FOLDS rfl) (by rfl)))))))))), ?_⟩
  walk_at "gg"
  refine ⟨_, _, _, rfl, hw, ?_⟩
  walk_at "gg"
  refine g_inTu (T.q_SUMS _) rfl rfl ?_
  walk_at "gg"
  refine if_t (by cases w.ws <;> decide +kernel) ?_
  walk_at "gg"
  refine g_inTu (T.q_ORDERS _) rfl rfl ?_
  walk_at "gg"
  refine if_t (by cases w.wo <;> decide +kernel) ?_
  walk_at "gg"
  refine g_inTu (T.q_GAPS _) rfl rfl ?_
  walk_at "gg"
  refine if_t (by cases w.gap <;> decide +kernel) ?_
  walk_at "gg"
  refine g_inTu (T.q_FOLDS _) rfl rfl ?_
  rw [show inV (.str (foldS w.fold)) [.str "both", .str "first", .str "refuse", .str "second"] = true by cases w.fold <;> decide +kernel]
  exact k
theorem ok_check_library (T : Txt w K mg) : FnOk P w K mg base CX0 3 T.f_check_library.f T.f_check_library.fd ["value"] (sp_check_library K) := by
  refine T.f_check_library.F.ok sc_check_library (fun vs H Q E h => ?_) (fun cdv A outer s H vs Q E hr h => ?_)
  · obtain ⟨wv, w, rfl, _⟩ := h
    rfl
  obtain ⟨wv, w, rfl, hw, k⟩ := h
  refine ⟨(tIfS (tNot (tB (tCall (sp_is_library K) [] E0 (tCons (tVar 0) tNil)))) tNever tNext),
    PSs.nox (pss_one (ps_if (pt_not (pt_val (pe_call (ok_is_library T) (hr.mono (by decide)) (by rfl) T.f_is_library.g T.f_is_library.F.kp T.f_is_library.b .nil pass0 (pa_cons (pv 0) pa_nil)))) (pss_one ps_never) pss_nil)), ?_⟩
  walk_at "gg"
  refine ⟨_, w, rfl, hw, ?_⟩
  walk_at "gg"
  exact k
theorem ok_passes_at (T : Txt w K mg) : FnOk P w K mg base CX0 3 T.f_passes_at.f T.f_passes_at.fd ["library", "zone", "reading"] (sp_passes_at K) := by
  refine T.f_passes_at.F.ok sc_passes_at (fun vs H Q E h => ?_) (fun cdv A outer s H vs Q E hr h => ?_)
  · obtain ⟨wv, zv, y, z, t, rfl, _⟩ := h
    rfl
  obtain ⟨wv, zv, y, z, t, rfl, ⟨a, rfl, hw⟩, hv, hz, l2, k⟩ := h
  refine ⟨(tSeq (tAsg (tSl (rSlT K) (tVar 0) (tPart (tC (.int 2))) tNoPart) (gTup K 2 (gCons (gName 3) (gCons (gName 4) gNil)))) (tSeq (tAsg (tCB (Evl.rLenS K) (tCons (tCall (sp_instants_with K) [] E0 (tCons (tVar 1) (tCons (tVar 2) tNil))) tNil)) (gName 5)) (tSeq (tIfS (tTest (tOp rEq (tVar 5) (tC (.int 0)))) (tRet (tOp (rIxD K w) (tC (.ref T.a_PASSES_IN_GAP)) (tVar 3))) tNext) (tSeq (tIfS (tTest (tOp rEq (tVar 5) (tC (.int 2)))) (tRet (tOp (rIxD K w) (tC (.ref T.a_PASSES_IN_FOLD)) (tVar 4))) tNext) (tRet (tTup (tCons (tC (.int 0)) tNil))))))),
    PSs.nox (pss_cons (ps_asg (pe_slice sl_tup (pv 0) (po_some pe_int) po_none) (pg_tup rfl (pgs_cons (pg_name (i := 3) sc_passes_at.nd rfl (Or.inl rfl)) (pgs_cons (pg_name (i := 4) sc_passes_at.nd rfl (Or.inl rfl)) pgs_nil)))) (pss_cons (ps_set (i := 5) sc_passes_at.nd rfl (Or.inl rfl) (pe_callB call_len_seq (by rfl) T.z_len (by decide +kernel) (pa_cons (pe_call (ok_instants_with T) (hr.mono (by decide)) (by rfl) T.f_instants_with.g T.f_instants_with.F.kp T.f_instants_with.b .nil pass0 (pa_cons (pv 1) (pa_cons (pv 2) pa_nil))) pa_nil))) (pss_cons (ps_if (pt_cmpR op_eq (pv 5) pe_int (nomark _)) (pss_one (ps_ret (pe_ix ix_kdict (pe_glob (by rfl) T.c_PASSES_IN_GAP rfl) (pv 3) (fun _ _ => rfl)))) pss_nil) (pss_cons (ps_if (pt_cmpR op_eq (pv 5) pe_int (nomark _)) (pss_one (ps_ret (pe_ix ix_kdict (pe_glob (by rfl) T.c_PASSES_IN_FOLD rfl) (pv 4) (fun _ _ => rfl)))) pss_nil) (pss_one (ps_ret (pe_tup (pa_cons pe_int pa_nil)))))))), ?_⟩
  walk_at "gg"
  refine g_slice ?_
  walk_at "gg"
  refine g_slT (k := 2) (ys := [.str (gapS y.gap), .str (foldS y.fold)]) hw (by decide) (by simp) rfl fun p1 H1 n1 e1 h1 => ?_
  walk_at "gg"
  refine ⟨_, z, _, rfl, hv.tr (TrT.of e1), hz.len, fun p2 H2 ns n2 e2 h2 r2 m2 => ?_⟩
  have en : ns = insts z t := rise_ext r2 (insts_rise z t) fun k => by rw [m2, insts_mem hz]
  subst en
  walk_at "gg"
  refine g_lenT h2.sq ?_
  rw [List.length_map]
  walk_at "gg"
  have e12 := e1.trans e2
  unfold times at k
  refine if_d (fun c => ?_) (fun c => ?_)
  · walk_at "gg"
    rw [if_neg (by omega), show (insts z t).length = 0 by omega] at k
    cases hg : y.gap with
    | keep =>
      rw [hg] at k
      refine g_ixD T.k_PASSES_IN_GAP_0 ?_
      exact k _ _ e12 (T.q_PASSES_IN_GAP_0 _)
    | refuse =>
      rw [hg] at k
      refine g_ixD T.k_PASSES_IN_GAP_1 ?_
      exact k _ _ e12 (T.q_PASSES_IN_GAP_1 _)
    | shift =>
      rw [hg] at k
      refine g_ixD T.k_PASSES_IN_GAP_2 ?_
      exact k _ _ e12 (T.q_PASSES_IN_GAP_2 _)
  walk_at "gg"
  refine if_d (fun c2 => ?_) (fun c2 => ?_)
  · walk_at "gg"
    rw [if_pos (by omega)] at k
    cases hf : y.fold with
    | both =>
      rw [hf] at k
      refine g_ixD T.k_PASSES_IN_FOLD_0 ?_
      exact k _ _ e12 (T.q_PASSES_IN_FOLD_0 _)
    | first =>
      rw [hf] at k
      refine g_ixD T.k_PASSES_IN_FOLD_1 ?_
      exact k _ _ e12 (T.q_PASSES_IN_FOLD_1 _)
    | refuse =>
      rw [hf] at k
      refine g_ixD T.k_PASSES_IN_FOLD_2 ?_
      exact k _ _ e12 (T.q_PASSES_IN_FOLD_2 _)
    | second =>
      rw [hf] at k
      refine g_ixD T.k_PASSES_IN_FOLD_3 ?_
      exact k _ _ e12 (T.q_PASSES_IN_FOLD_3 _)
  · walk_at "gg"
    rw [if_neg (by omega), if_pos (.inl (by omega))] at k
    refine g_newT (by simp) fun p3 H3 n3 e3 h3 => ?_
    exact k _ _ (e12.trans e3) (SqT.of h3)
end
/-! ### times and their instants -/
section
variable {w : Way} {z : Zone} (h : OkZ z)
include h
/-- a reading that does not grow: one falling change between -/
theorem OkZ.cross {T U : Int} (lt : U < T) (le : T + off z T ≤ U + off z U) :
    ∃ s, U < s ∧ s ≤ T ∧ T ≤ U + 3 ∧ off z T < off z U ∧ off z U ≤ off z T + 3 ∧ (∀ x, s - 12 ≤ x → x < s → off z x = off z U) ∧ (∀ x, s ≤ x → x ≤ s + 11 → off z x = off z T) := by
  have b := h.back lt le
  obtain ⟨s, s1, s2, s3, s4⟩ := h.near (t := U) (u := T) (by omega) (by omega)
  have c : s ≤ T := by
    by_cases c : s ≤ T
    · exact c
    · have := s2 T (by omega) (by omega)
      omega
  have f1 := s2 (s - 1) (by omega) (by omega)
  have f2 := s3 s (by omega) c
  have d := s4 c
  obtain ⟨c1, c2, c3, c4⟩ := h.chart (s := s) (by omega)
  exact ⟨s, s1, c, b, by omega, by omega, fun x x1 x2 => by rw [c1 x x1 x2, f1], fun x x1 x2 => by rw [c2 x x1 x2, f2]⟩
theorem tm_cases {t : Tm} (q : IsTm w z t) :
    (∃ T, insts z t.1 = [T] ∧ inst w z t = T ∧ t.2 = 0) ∨
    (∃ A B, insts z t.1 = [A, B] ∧ w.fold ≠ .refuse ∧ ((t.2 = 0 ∧ w.fold ≠ .second ∧ inst w z t = A) ∨ (t.2 = 0 ∧ w.fold = .second ∧ inst w z t = B) ∨ (t.2 = 1 ∧ w.fold = .both ∧ inst w z t = B))) ∨
    (insts z t.1 = [] ∧ w.gap = .keep ∧ t.2 = 0 ∧ inst w z t = t.1 - before z t.1) := by
  have l2 := h.le2 t.1
  have q0 := q
  unfold IsTm times at q
  match e : insts z t.1 with
  | [] =>
    rw [e] at q
    simp at q
    refine .inr (.inr ⟨rfl, q.1, by rw [q.2], ?_⟩)
    unfold inst
    rw [if_pos e]
  | [T] =>
    have p : t.2 = 0 := by
      rcases q0.pass with p | p
      · exact p
      · rw [e] at p
        simp at p
    refine .inl ⟨T, rfl, ?_, p⟩
    unfold inst
    rw [e, if_neg (by simp), p]
    split <;> rfl
  | [A, B] =>
    refine .inr (.inl ⟨A, B, rfl, ?_, ?_⟩)
    · intro c
      rw [e, c] at q
      simp at q
    · unfold inst
      rw [e, if_neg (by simp)]
      by_cases c : w.fold = .second
      · rw [if_pos c]
        rcases q0.pass with p | p
        · exact .inr (.inl ⟨p, c, rfl⟩)
        · rw [p.2.1] at c
          cases c
      · rw [if_neg c]
        rcases q0.pass with p | p
        · exact .inl ⟨p, c, by rw [p] <;> rfl⟩
        · exact .inr (.inr ⟨p.1, p.2.1, by rw [p.1] <;> rfl⟩)
  | a :: b :: c :: l => rw [e] at l2; simp at l2
/-- outside of gaps the instant has the reading -/
theorem inst_rd {t : Tm} (q : IsTm w z t) (c : insts z t.1 ≠ []) : inst w z t + off z (inst w z t) = t.1 := by
  rcases tm_cases h q with ⟨T, e, i, _⟩ | ⟨A, B, e, _, k⟩ | ⟨e, _⟩
  · rw [i]
    exact (insts_mem h).1 (by rw [e]; simp)
  · have p := h.pair e
    rcases k with ⟨_, _, i⟩ | ⟨_, _, i⟩ | ⟨_, _, i⟩ <;> rw [i]
    · exact p.2.1
    · exact p.2.2.1
    · exact p.2.2.1
  · exact (c e).elim
theorem at_one {T : Int} (e : insts z (T + off z T) = [T]) : at_ w z T = some (T + off z T, 0) := by
  unfold at_
  rw [e]
  simp
/-- F1: from the instant back to the time -/
theorem at_inst {t : Tm} (q : IsTm w z t) (c : insts z t.1 ≠ []) : at_ w z (inst w z t) = some t := by
  have r := inst_rd h q c
  unfold at_
  rw [r]
  obtain ⟨t1, t2⟩ := t
  rcases tm_cases h q with ⟨T, e, i, p⟩ | ⟨A, B, e, nr, k⟩ | ⟨e, _⟩
  · simp only at e p
    rw [e, i, p]
    simp
  · simp only at e k
    have pr := h.pair e
    rw [e, if_neg (fun q => nr q.2)]
    rcases k with ⟨p, f, i⟩ | ⟨p, f, i⟩ | ⟨p, f, i⟩
    · rw [i, p]
      simp
    · rw [i, p, f]
      simp
    · rw [i, p, f]
      have : ¬ B = A := by omega
      simp [this]
  · exact (c e).elim
/-- F2: from an instant to the time and back -/
theorem inst_at {T : Int} (c : w.fold = .both ∨ (insts z (T + off z T)).length ≠ 2) : ∃ t, at_ w z T = some t ∧ inst w z t = T ∧ t.1 = T + off z T ∧ IsTm w z t ∧ insts z t.1 ≠ [] := by
  have s := insts_self h T
  have l2 := h.le2 (T + off z T)
  have nr : ¬ ((insts z (T + off z T)).length = 2 ∧ w.fold = .refuse) := fun q => by
    rcases c with c | c
    · rw [q.2] at c
      cases c
    · exact c q.1
  have e : at_ w z T = some (T + off z T, if w.fold = .both ∧ T ≠ (insts z (T + off z T)).head?.getD 0 then 1 else 0) := by
    unfold at_
    rw [if_neg nr]
  generalize hp : (if w.fold = .both ∧ T ≠ (insts z (T + off z T)).head?.getD 0 then (1 : Int) else 0) = p at e
  have v := at_valid h e
  refine ⟨_, e, ?_, rfl, v.1, fun q => by rw [show insts z (T + off z T) = [] from q] at s; cases s⟩
  rcases tm_cases h v.1 with ⟨X, ex, i, _⟩ | ⟨A, B, ex, nr2, k⟩ | ⟨ex, _⟩
  · simp only at ex
    rw [ex] at s
    rw [i]
    exact (List.mem_singleton.mp s).symm
  · simp only at ex k
    rw [ex] at s c hp
    have cb : w.fold = .both := by
      rcases c with c | c
      · exact c
      · simp at c
    have pr := h.pair ex
    simp only [List.mem_cons, List.not_mem_nil, or_false] at s
    by_cases d : T = A
    · rw [if_neg (fun q => q.2 (show T = [A, B].head?.getD 0 from d))] at hp
      rcases k with ⟨_, _, i⟩ | ⟨_, f, _⟩ | ⟨f, _⟩
      · rw [i, d]
      · rw [cb] at f
        cases f
      · omega
    · rw [if_pos ⟨cb, (show T ≠ [A, B].head?.getD 0 from d)⟩] at hp
      rcases k with ⟨f, _⟩ | ⟨f, _⟩ | ⟨_, _, i⟩
      · omega
      · omega
      · rw [i]
        rcases s with s | s
        · exact (d s).elim
        · exact s.symm
  · simp only at ex
    rw [ex] at s
    cases s
/-- readings and instants rise alike, outside of gaps, where a fold has one pass -/
theorem mono_lt {t u : Tm} (qt : IsTm w z t) (qu : IsTm w z u) (ct : insts z t.1 ≠ []) (cu : insts z u.1 ≠ []) (cf : w.fold ≠ .both ∨ ((insts z t.1).length ≠ 2)) (lt : t.1 < u.1) : inst w z t < inst w z u := by
  have rt := inst_rd h qt ct
  have ru := inst_rd h qu cu
  by_cases c : inst w z t < inst w z u
  · exact c
  · have ne : inst w z u < inst w z t := by
      rcases Int.lt_or_eq_of_le (Int.not_lt.mp c) with d | d
      · exact d
      · rw [d] at ru
        omega
    obtain ⟨s, s1, s2, s3, s4, s5, s6, s7⟩ := h.cross ne (by omega)
    -- the other instants of both readings
    have x1 := s6 (t.1 - off z (inst w z u)) (by omega) (by omega)
    have x2 : t.1 - off z (inst w z u) ∈ insts z t.1 := (insts_mem h).2 (by omega)
    have y1 := s7 (u.1 - off z (inst w z t)) (by omega) (by omega)
    have y2 : u.1 - off z (inst w z t) ∈ insts z u.1 := (insts_mem h).2 (by omega)
    rcases tm_cases h qt with ⟨T, e, i, p⟩ | ⟨A, B, e, nr, k⟩ | ⟨e, _⟩
    · rw [e] at x2
      have := List.mem_singleton.mp x2
      omega
    · have fb : w.fold ≠ .both := by
        rcases cf with cf | cf
        · exact cf
        · rw [e] at cf
          simp at cf
      have pr := h.pair e
      rw [e] at x2
      simp only [List.mem_cons, List.not_mem_nil, or_false] at x2
      have sec : w.fold = .second := by
        rcases k with ⟨_, _, i⟩ | ⟨_, f, _⟩ | ⟨_, f, _⟩
        · omega
        · exact f
        · exact (fb f).elim
      rcases tm_cases h qu with ⟨T, e', i', p'⟩ | ⟨A', B', e', nr', k'⟩ | ⟨e', _⟩
      · rw [e'] at y2
        have := List.mem_singleton.mp y2
        omega
      · have pr' := h.pair e'
        rw [e'] at y2
        simp only [List.mem_cons, List.not_mem_nil, or_false] at y2
        rcases k' with ⟨_, f, _⟩ | ⟨_, _, i'⟩ | ⟨_, f, _⟩
        · exact (f sec).elim
        · omega
        · exact (fb f).elim
      · exact (cu e').elim
    · exact (ct e).elim
/-- one reading, one time -/
theorem tm_eq {t u : Tm} (qt : IsTm w z t) (qu : IsTm w z u) (cf : w.fold ≠ .both ∨ (insts z t.1).length ≠ 2) (e : t.1 = u.1) : t = u := by
  have p : ∀ x : Tm, IsTm w z x → x.1 = t.1 → x.2 = 0 := fun x qx ex => by
    rcases qx.pass with p | p
    · exact p
    · rcases cf with cf | cf
      · exact (cf p.2.1).elim
      · rw [ex] at p
        exact (cf p.2.2).elim
  exact Prod.ext e (by rw [p t qt rfl, p u qu e.symm])
/-- in a gap -/
theorem gap_at {rd s a b : Int} (G : InGap z rd s a b) : insts z (rd - b + off z (rd - b)) = [rd - b] ∧ off z (rd - b) = a ∧ s ≤ rd - b ∧ rd - b ≤ s + 2 := by
  have g1 := G.lt
  have g2 := G.le
  have g3 := G.lo
  have g4 := G.hi
  have o := G.aft (rd - b) (by omega) (by omega)
  refine ⟨h.one rfl fun x x1 x2 x3 x4 => ?_, o, by omega, by omega⟩
  by_cases c : x < s
  · have := G.bef x (by omega) c
    omega
  · have := G.aft x (by omega) (by omega)
    omega
/-- what comes later than a gap's change reads later than the gap -/
theorem gap_later {rd s a b T : Int} (G : InGap z rd s a b) (hT : s ≤ T) : rd < T + off z T := by
  have g4 := G.hi
  have o := G.aft s (by omega) (by omega)
  by_cases c : rd < T + off z T
  · exact c
  · have ne : s < T := by
      rcases Int.lt_or_eq_of_le hT with d | d
      · exact d
      · rw [← d] at c
        omega
    have := h.back ne (by omega)
    have := G.aft T (by omega) (by omega)
    omega
theorem gap_earlier {rd s a b T : Int} (G : InGap z rd s a b) (hT : T + off z T < rd) : T < s := by
  by_cases c : T < s
  · exact c
  · have := gap_later h G (T := T) (by omega)
    omega
end
/-! ### zones without gaps, without folds -/
def NoGap (z : Zone) : Prop := ∀ rd, insts z rd ≠ []
def NoFold (z : Zone) : Prop := ∀ rd, (insts z rd).length ≠ 2
theorem kind_up : ∀ (cs : List (Int × Int)) (b : Int) (s r : Bool), (kindGo b s r cs).2 = false → r = false ∧ (∀ u, b ≤ offGo u b cs) ∧ ∀ t u, t ≤ u → offGo t b cs ≤ offGo u b cs
  | [], b, s, r, e => ⟨e, fun u => Int.le_refl _, fun _ _ _ => Int.le_refl _⟩
  | p :: l, b, s, r, e => by
    rw [kindGo_cons] at e
    split at e
    next c =>
      obtain ⟨i1, i2, i3⟩ := kind_up l p.2 true r e
      refine ⟨i1, fun u => ?_, fun t u tu => ?_⟩
      · rw [offGo_cons]
        have := i2 u
        split <;> omega
      · rw [offGo_cons, offGo_cons]
        have := i2 u
        have := i3 t u tu
        split <;> split <;> omega
    next c =>
      have := (kind_up l p.2 s true e).1
      cases this
theorem kind_down : ∀ (cs : List (Int × Int)) (b : Int) (s r : Bool), (kindGo b s r cs).1 = false → s = false ∧ (∀ u, offGo u b cs ≤ b) ∧ ∀ t u, t ≤ u → offGo u b cs ≤ offGo t b cs
  | [], b, s, r, e => ⟨e, fun u => Int.le_refl _, fun _ _ _ => Int.le_refl _⟩
  | p :: l, b, s, r, e => by
    rw [kindGo_cons] at e
    split at e
    next c =>
      have := (kind_down l p.2 true r e).1
      cases this
    next c =>
      obtain ⟨i1, i2, i3⟩ := kind_down l p.2 s true e
      refine ⟨i1, fun u => ?_, fun t u tu => ?_⟩
      · rw [offGo_cons]
        have := i2 u
        split <;> omega
      · rw [offGo_cons, offGo_cons]
        have := i2 u
        have := i3 t u tu
        split <;> split <;> omega
theorem kind_flags {z : Zone} {k : Str} (e : kindOf z = k) : (k = "fixed" ∨ k = "skips" → (kindGo z.1 false false z.2).2 = false) ∧ (k = "fixed" ∨ k = "repeats" → (kindGo z.1 false false z.2).1 = false) := by
  unfold kindOf at e
  generalize kindGo z.1 false false z.2 = f at e
  have n1 : ("both" : Str) ≠ "fixed" := by decide +kernel
  have n2 : ("both" : Str) ≠ "skips" := by decide +kernel
  have n3 : ("both" : Str) ≠ "repeats" := by decide +kernel
  have n4 : ("skips" : Str) ≠ "fixed" := by decide +kernel
  have n5 : ("skips" : Str) ≠ "repeats" := by decide +kernel
  have n6 : ("repeats" : Str) ≠ "fixed" := by decide +kernel
  have n7 : ("repeats" : Str) ≠ "skips" := by decide +kernel
  match f with
  | (true, true) =>
    subst e
    exact ⟨fun q => q.elim (fun q => (n1 q).elim) (fun q => (n2 q).elim), fun q => q.elim (fun q => (n1 q).elim) (fun q => (n3 q).elim)⟩
  | (true, false) =>
    subst e
    exact ⟨fun _ => rfl, fun q => q.elim (fun q => (n4 q).elim) (fun q => (n5 q).elim)⟩
  | (false, true) =>
    subst e
    exact ⟨fun q => q.elim (fun q => (n6 q).elim) (fun q => (n7 q).elim), fun _ => rfl⟩
  | (false, false) => exact ⟨fun _ => rfl, fun _ => rfl⟩
theorem noFold_of {z : Zone} (h : OkZ z) {k : Str} (e : kindOf z = k) (c : k = "fixed" ∨ k = "skips") : NoFold z := by
  have up := (kind_up z.2 z.1 false false ((kind_flags e).1 c)).2.2
  intro rd l
  match q : insts z rd with
  | [] => rw [q] at l; cases l
  | [a] => rw [q] at l; cases l
  | [a, b] =>
    have p := h.pair q
    have := up a b (by omega)
    unfold off at p
    omega
  | a :: b :: c :: r => rw [q] at l; simp at l
theorem noGap_of {z : Zone} (h : OkZ z) {k : Str} (e : kindOf z = k) (c : k = "fixed" ∨ k = "repeats") : NoGap z := by
  have dn := (kind_down z.2 z.1 false false ((kind_flags e).2 c)).2.2
  intro rd l
  obtain ⟨s, a, b, G⟩ := h.gap l
  have f1 := G.bef (s - 1) (by omega) (by omega)
  have f2 := G.aft s (by omega) (by omega)
  have := G.lt
  have := dn (s - 1) s (by omega)
  unfold off at f1 f2
  omega
/-- no gaps, no folds: one offset -/
theorem const_of {z : Zone} (h : OkZ z) (ng : NoGap z) (nf : NoFold z) (T U : Int) : off z T = off z U := by
  have stp : ∀ s, off z s = off z (s - 1) := by
    intro s
    by_cases c : off z s = off z (s - 1)
    · exact c
    · obtain ⟨c1, c2, c3, c4⟩ := h.chart c
      by_cases d : off z s < off z (s - 1)
      · -- a fold: the reading s + off s
        have m1 : s ∈ insts z (s + off z s) := insts_self h s
        have x := c1 (s + off z s - off z (s - 1)) (by omega) (by omega)
        have m2 : s + off z s - off z (s - 1) ∈ insts z (s + off z s) := (insts_mem h).2 (by omega)
        have l := nf (s + off z s)
        have l2 := h.le2 (s + off z s)
        match q : insts z (s + off z s) with
        | [] => rw [q] at m1; cases m1
        | [a] =>
          rw [q] at m1 m2
          have := List.mem_singleton.mp m1
          have := List.mem_singleton.mp m2
          omega
        | [a, b] => rw [q] at l; exact (l rfl).elim
        | a :: b :: c :: r => rw [q] at l2; simp at l2
      · -- a gap: the reading s + off (s - 1)
        refine (ng (s + off z (s - 1)) ?_).elim
        cases q : insts z (s + off z (s - 1)) with
        | nil => rfl
        | cons T l =>
          have m := (insts_mem h (t := s + off z (s - 1)) (k := T)).1 (by rw [q]; simp)
          by_cases d1 : T < s
          · by_cases d2 : T = s - 1
            · rw [d2] at m
              omega
            · have := h.back (t := T) (u := s - 1) (by omega) (by omega)
              have := c1 T (by omega) d1
              omega
          · by_cases d2 : T = s
            · rw [d2] at m
              omega
            · have := h.back (t := s) (u := T) (by omega) (by omega)
              have := c2 T (by omega) (by omega)
              omega
  have go : ∀ (n : Nat) (T : Int), off z (T + n) = off z T := by
    intro n
    induction n with
    | zero =>
      intro T
      rw [show T + ((0 : Nat) : Int) = T by omega]
    | succ n ih =>
      intro T
      rw [stp, show T + ((n + 1 : Nat) : Int) - 1 = T + (n : Int) by omega]
      exact ih T
  rcases Int.le_total T U with q | q
  · have := go (U - T).toNat T
    rw [show T + ((U - T).toNat : Int) = U by omega] at this
    exact this.symm
  · have := go (T - U).toNat U
    rw [show U + ((T - U).toNat : Int) = T by omega] at this
    exact this
local macro_rules | `(tactic| walk_at "m") => `(tactic| first
  | with_reducible refine g_m1 ?_
  | with_reducible refine g_isS ?_
  | with_reducible refine g_lcStr ?_
  | with_reducible refine g_join ?_
  | with_reducible refine g_js ?_
  | with_reducible refine g_jsN ?_
  | with_reducible refine g_fmt ?_
  | with_reducible refine g_callLam ?_
  | with_reducible refine g_revT ?_)

/-! ### the walk over the changes to a gap -/
def gapGo (rd : Int) : Int → List (Int × Int) → Option Int
  | _, [] => none
  | b, p :: r => if p.1 + b ≤ rd ∧ rd < p.1 + p.2 then some b else gapGo rd p.2 r
theorem gapGo_some {rd x : Int} : ∀ {b e : Int} {cs : List (Int × Int)}, okGo b e cs = true → gapGo rd b cs = some x →
    ∃ q, e ≤ q ∧ q + x ≤ rd ∧ rd < q + offGo q b cs ∧ offGo (q - 1) b cs = x
  | b, e, [], _, h => by cases h
  | b, e, p :: r, o, h => by
    have a := okGo_after o p (by simp)
    rw [okGo_cons, Bool.and_eq_true] at o
    unfold gapGo at h
    split at h
    · next c =>
      cases h
      refine ⟨p.1, a, c.1, ?_, ?_⟩
      · rw [offGo_cons, if_neg (by omega), offGo_before o.2 (by omega)]
        exact c.2
      · rw [offGo_cons, if_pos (by omega)]
    · obtain ⟨q, q1, q2, q3, q4⟩ := gapGo_some o.2 h
      refine ⟨q, by omega, q2, ?_, ?_⟩
      · rw [offGo_cons, if_neg (by omega)]
        exact q3
      · rw [offGo_cons, if_neg (by omega)]
        exact q4
theorem gapGo_hit {rd s : Int} : ∀ {b e : Int} {cs : List (Int × Int)}, okGo b e cs = true → s + offGo (s - 1) b cs ≤ rd → rd < s + offGo s b cs → gapGo rd b cs ≠ none
  | b, e, [], _, h1, h2 => by
    have e1 : offGo (s - 1) b [] = b := rfl
    have e2 : offGo s b [] = b := rfl
    omega
  | b, e, p :: r, o, h1, h2 => by
    rw [okGo_cons, Bool.and_eq_true] at o
    unfold gapGo
    split
    · exact fun q => nomatch q
    · next c =>
      by_cases c1 : p.1 > s
      · rw [offGo_cons, if_pos (by omega)] at h1 h2
        omega
      · by_cases c2 : p.1 = s
        · rw [offGo_cons, if_pos (by omega)] at h1
          rw [offGo_cons, if_neg (by omega), offGo_before o.2 (by omega)] at h2
          exact (c ⟨by omega, by omega⟩).elim
        · rw [offGo_cons, if_neg (by omega)] at h1 h2
          exact gapGo_hit o.2 h1 h2
theorem gapGo_before {z : Zone} (h : OkZ z) {rd : Int} (e : insts z rd = []) : gapGo rd z.1 z.2 = some (before z rd) := by
  obtain ⟨s, a, b, G⟩ := h.gap e
  have b1 := G.bef (s - 1) (by omega) (by omega)
  have a1 := G.aft s (by omega) (by omega)
  have g1 := G.lo
  have g2 := G.hi
  cases q : gapGo rd z.1 z.2 with
  | none => exact (gapGo_hit h.go (s := s) (by unfold off at b1; omega) (by unfold off at a1; omega) q).elim
  | some x =>
    obtain ⟨p, p1, p2, p3, p4⟩ := gapGo_some h.go q
    have p3 : rd < p + off z p := p3
    have p4 : off z (p - 1) = x := p4
    have l1 : p - 1 < s := gap_earlier h G (by omega)
    have es : p = s := by
      by_cases c : p < s
      · have l2 := h.back (t := p) (u := s - 1)
        by_cases c2 : p < s - 1
        · have l3 := l2 c2 (by omega)
          have := G.bef p (by omega) c
          omega
        · have : p = s - 1 := by omega
          subst this
          omega
      · omega
    subst es
    rw [G.bf, ← p4, b1]
theorem insts2 {z : Zone} (hz : OkZ z) {ns : List Int} {t : Int} (r : ns.Pairwise (· < ·)) (m : ∀ k, k ∈ ns ↔ k + off z k = t) : ns = insts z t := rise_ext r (insts_rise z t) fun k => by rw [m, insts_mem hz]
theorem emp_false {α : Type} {xs : List α} (c : xs ≠ []) : (!xs.isEmpty) = true := by
  cases xs with
  | nil => exact (c rfl).elim
  | cons _ _ => rfl
instance decTm {w : Way} {z : Zone} {t : Tm} : Decidable (IsTm w z t) := inferInstanceAs (Decidable (t ∈ times w z t.1))
theorem tm_in {w : Way} {z : Zone} {t : Tm} (c : t.2 = 0 ∨ t.2 = 1) : inV (.int t.2) ((times w z t.1).map fun x => V.int x.2) = decide (IsTm w z t) := by
  have e : ∀ xs : List Tm, (∀ x ∈ xs, x.1 = t.1) → inV (.int t.2) (xs.map fun x => V.int x.2) = decide (t ∈ xs) := by
    intro xs
    induction xs with
    | nil => intro _; exact (decide_eq_false (by simp)).symm
    | cons x xs ih =>
      intro h
      have i := ih fun y hy => h y (by simp [hy])
      have hx := h x (by simp)
      show (eqV (.int x.2) (.int t.2) || inV (.int t.2) (xs.map fun x => V.int x.2)) = _
      rw [i]
      have e1 : eqV (.int x.2) (.int t.2) = decide (t = x) := by
        show (x.2 == t.2) = decide (t = x)
        rw [show (x.2 == t.2) = decide (x.2 = t.2) from rfl]
        exact decide_eq_decide.mpr ⟨fun e => Prod.ext hx.symm e.symm, fun e => by rw [e]⟩
      rw [e1, ← Bool.decide_or]
      exact decide_eq_decide.mpr List.mem_cons.symm
  exact e _ fun x hx => times_rd hx
/-! ### promises -/
def sp_offset_before_gap (K : PySem.W.Frag) : Sp := fun vs H Q _ => ∃ (zv : V) (z : Zone) (t : Int), vs = [zv, .int t] ∧ ZV K H zv z ∧ OkZ z ∧ insts z t = [] ∧ ∀ H', Ex H H' → Q (.int (before z t)) H'
def sp_instant_of_time (K : PySem.W.Frag) : Sp := fun vs H Q _ => ∃ (wv zv tv : V) (w : Way) (z : Zone) (t : Tm), vs = [wv, zv, tv] ∧ WayV K H wv w ∧ ZV K H zv z ∧ OkZ z ∧ PV K H tv t ∧ IsTm w z t ∧ ∀ H', Ex H H' → Q (.int (inst w z t)) H'
def sp_time_at (K : PySem.W.Frag) : Sp := fun vs H Q _ => ∃ (wv zv : V) (w : Way) (z : Zone) (t : Int), vs = [wv, zv, .int t] ∧ WayV K H wv w ∧ ZV K H zv z ∧ OkZ z ∧ ∀ v H', Ex H H' → TV K H' v (at_ w z t) → Q v H'
def sp_time_read (K : PySem.W.Frag) : Sp := fun vs H Q _ => ∃ (wv zv : V) (w : Way) (z : Zone) (t : Int), vs = [wv, zv, .int t] ∧ WayV K H wv w ∧ ZV K H zv z ∧ OkZ z ∧ ∀ v H', Ex H H' → TV K H' v (read_ w z t) → Q v H'
def sp_is_time (K : PySem.W.Frag) : Sp := fun vs H Q _ => ∃ (wv zv tv : V) (w : Way) (z : Zone) (t : Tm), vs = [wv, zv, tv] ∧ WayV K H wv w ∧ ZV K H zv z ∧ okZ z = true ∧ PV K H tv t ∧ -90000 ≤ t.1 ∧ t.1 ≤ 90000 ∧ (t.2 = 0 ∨ t.2 = 1) ∧
  ∀ H', Ex H H' → Q (.bl (decide (IsTm w z t))) H'
def sp_place_of (K : PySem.W.Frag) : Sp := fun vs H Q _ => ∃ (wv zv tv : V) (b : Bool) (w : Way) (z : Zone) (t : Tm), vs = [.str (sumS b), wv, zv, tv] ∧ WayV K H wv w ∧ ZV K H zv z ∧ OkZ z ∧ PV K H tv t ∧ IsTm w z t ∧
  ∀ H', Ex H H' → Q (.int (if b then t.1 else inst w z t)) H'
def sp_time_after (K : PySem.W.Frag) : Sp := fun vs H Q _ => ∃ (wv zv tv : V) (w : Way) (z : Zone) (t : Tm) (d : Int), vs = [wv, zv, tv, .int d] ∧ WayV K H wv w ∧ ZV K H zv z ∧ OkZ z ∧ PV K H tv t ∧ IsTm w z t ∧
  ∀ v H', Ex H H' → TV K H' v (addT w z (some t) d) → Q v H'
def sp_hours_between (K : PySem.W.Frag) : Sp := fun vs H Q _ => ∃ (wv zv av bv : V) (w : Way) (z : Zone) (a b : Tm), vs = [wv, zv, av, bv] ∧ WayV K H wv w ∧ ZV K H zv z ∧ OkZ z ∧ PV K H av a ∧ PV K H bv b ∧ IsTm w z a ∧ IsTm w z b ∧
  ∀ H', Ex H H' → Q (.int (less_ w z a b)) H'
def sp_order_of (K : PySem.W.Frag) : Sp := fun vs H Q _ => ∃ (wv zv av bv : V) (w : Way) (z : Zone) (a b : Tm), vs = [wv, zv, av, bv] ∧ WayV K H wv w ∧ ZV K H zv z ∧ OkZ z ∧ PV K H av a ∧ PV K H bv b ∧ IsTm w z a ∧ IsTm w z b ∧
  ∀ H', Ex H H' → Q (.int (cmp (key w z a) (key w z b))) H'
section
variable {P : Program} {w : World} {K : PySem.W.Frag} {mg : Str → Option Value} {base : Heap}
theorem ok_is_time (T : Txt w K mg) : FnOk P w K mg base CX0 6 T.f_is_time.f T.f_is_time.fd ["library", "zone", "value"] (sp_is_time K) := by
  refine T.f_is_time.F.ok sc_is_time (fun vs H Q E h => ?_) (fun cdv A outer s H vs Q E hr h => ?_)
  · obtain ⟨wv, zv, tv, w, z, t, rfl, _⟩ := h
    rfl
  obtain ⟨wv, zv, tv, w, z, t, rfl, hwv, hv, ho, ⟨ta, rfl, ht⟩, b1, b2, b3, k⟩ := h
  have hz := OkZ.of ho
  refine ⟨(tSeq (tDrop (tCall (sp_check_library K) [] E0 (tCons (tVar 0) tNil))) (tSeq (tDrop (tCall (sp_check_zone K) [] E0 (tCons (tVar 1) tNil))) (tSeq (tIfS (tNot (tB (tCall (sp_is_tuple_of K) [] E0 (tCons (tC (.int 2)) (tCons (tVar 2) tNil))))) (tRet (tC (.bl false))) tNext) (tSeq (tAsg (tVar 2) (gTup K 2 (gCons (gName 3) (gCons (gName 4) gNil)))) (tSeq (tIfS (tOr (tNot (tB (tCall (sp_is_reading K) [] E0 (tCons (tVar 3) tNil)))) (tNot (tB (tCall (sp_is_between K) [] E0 (tCons (tVar 4) (tCons (tC (.int 0)) (tCons (tC (.int 1)) tNil))))))) (tRet (tC (.bl false))) tNext) (tRet (tOp (rIn K false) (tVar 4) (tCall (sp_passes_at K) [] E0 (tCons (tVar 0) (tCons (tVar 1) (tCons (tVar 3) tNil))))))))))),
    PSs.nox (pss_cons (ps_expr (pe_call (ok_check_library T) (hr.mono (by decide)) (by rfl) T.f_check_library.g T.f_check_library.F.kp T.f_check_library.b .nil pass0 (pa_cons (pv 0) pa_nil))) (pss_cons (ps_expr (pe_call (ok_check_zone T) (hr.mono (by decide)) (by rfl) T.f_check_zone.g T.f_check_zone.F.kp T.f_check_zone.b .nil pass0 (pa_cons (pv 1) pa_nil))) (pss_cons (ps_if (pt_not (pt_val (pe_call (ok_is_tuple_of T) (hr.mono (by decide)) (by rfl) T.f_is_tuple_of.g T.f_is_tuple_of.F.kp T.f_is_tuple_of.b .nil pass0 (pa_cons pe_int (pa_cons (pv 2) pa_nil))))) (pss_one (ps_ret pe_bl)) pss_nil) (pss_cons (ps_asg (pv 2) (pg_tup rfl (pgs_cons (pg_name (i := 3) sc_is_time.nd rfl (Or.inl rfl)) (pgs_cons (pg_name (i := 4) sc_is_time.nd rfl (Or.inl rfl)) pgs_nil)))) (pss_cons (ps_if (PW.pt (pw_or (pt_not (pt_val (pe_call (ok_is_reading T) (hr.mono (by decide)) (by rfl) T.f_is_reading.g T.f_is_reading.F.kp T.f_is_reading.b .nil pass0 (pa_cons (pv 3) pa_nil)))) (pw_or1 (pt_not (pt_val (pe_call (ok_is_between T) (hr.mono (by decide)) (by rfl) T.f_is_between.g T.f_is_between.F.kp T.f_is_between.b .nil pass0 (pa_cons (pv 4) (pa_cons pe_int (pa_cons pe_int pa_nil))))))))) (pss_one (ps_ret pe_bl)) pss_nil) (pss_one (ps_ret (pe_cmpR op_in_seq (pv 4) (pe_call (ok_passes_at T) (hr.mono (by decide)) (by rfl) T.f_passes_at.g T.f_passes_at.F.kp T.f_passes_at.b .nil pass0 (pa_cons (pv 0) (pa_cons (pv 1) (pa_cons (pv 3) pa_nil)))) (by rfl))))))))), ?_⟩
  walk_at "gg"
  refine ⟨_, w, rfl, hwv, ?_⟩
  walk_at "gg"
  refine ⟨_, z, rfl, hv, ho, ?_⟩
  walk_at "gg"
  refine ⟨_, _, _, rfl, ht, ?_⟩
  walk_at "gg"
  refine ⟨_, rfl, ?_⟩
  rw [decide_eq_true (⟨b1, b2⟩ : -90000 ≤ t.1 ∧ t.1 ≤ 90000)]
  walk_at "gg"
  refine ⟨_, _, _, rfl, ?_⟩
  rw [decide_eq_true (⟨by omega, by omega⟩ : 0 ≤ t.2 ∧ t.2 ≤ 1)]
  walk_at "gg"
  refine ⟨_, _, w, z, _, rfl, hwv, hv, hz, hz.le2 _, fun p H1 e1 h1 => ?_⟩
  refine g_inTu h1 rfl ?_ ?_
  · rw [List.all_map]
    exact List.all_eq_true.mpr fun _ _ => rfl
  · rw [tm_in b3]
    exact k _ e1
end
/-! ### the rules -/
inductive Rule where
  | fromU | toU | every | someR | there | sumD | elapsed | same | later | told | diff | ordDiff | eqOne | oneEq | oneOne | ordInst | kept | eqSums
  deriving DecidableEq
def ruleS : Rule → Str
  | .fromU => "from universal and back"
  | .toU => "to universal and back"
  | .every => "every reading"
  | .someR => "some reading"
  | .there => "there and back"
  | .sumD => "sum of durations"
  | .elapsed => "elapsed time"
  | .same => "same clock"
  | .later => "later"
  | .told => "sums told"
  | .diff => "difference recovers"
  | .ordDiff => "order by difference"
  | .eqOne => "equal means one instant"
  | .oneEq => "one instant means equal"
  | .oneOne => "one instant, one time"
  | .ordInst => "order of instants"
  | .kept => "order kept"
  | .eqSums => "equal sums"
/-- the two conditions: for skips, for repeats -/
def met (w : Way) : Rule → Bool × Bool
  | .fromU => (true, decide (w.fold = .both))
  | .toU => (!decide (w.gap = .keep), true)
  | .every => (decide (w.gap = .keep), !decide (w.fold = .refuse))
  | .someR => (!decide (w.gap = .refuse), !decide (w.fold = .refuse))
  | .there => (w.ws == decide (w.gap = .keep), if w.ws then (decide (w.fold = .first) || decide (w.fold = .second)) else decide (w.fold = .both))
  | .sumD => (!w.ws || decide (w.gap = .keep), if w.ws then !decide (w.fold = .refuse) else decide (w.fold = .both))
  | .elapsed => (!w.ws, decide (w.fold = .both) && !w.ws)
  | .same => (w.ws && decide (w.gap = .keep), w.ws && !decide (w.fold = .refuse))
  | .later => (!w.ws || (decide (w.gap = .shift) || (decide (w.gap = .keep) && w.wo)), decide (w.fold = .second) || ((w.ws && decide (w.fold = .first)) || (decide (w.fold = .both) && (w.ws == w.wo))))
  | .told => (!w.ws || !decide (w.gap = .refuse), !decide (w.fold = .refuse))
  | .diff => (w.ws || !decide (w.gap = .keep), !w.ws || !decide (w.fold = .both))
  | .ordDiff => ((w.ws == w.wo) || !decide (w.gap = .keep), (w.ws == w.wo) || !decide (w.fold = .both))
  | .eqOne => (true, !w.wo || !decide (w.fold = .both))
  | .oneEq => (!w.wo || !decide (w.gap = .keep), true)
  | .oneOne => (!decide (w.gap = .keep), true)
  | .ordInst => (!w.wo || !decide (w.gap = .keep), !w.wo || !decide (w.fold = .both))
  | .kept => (if w.ws then w.wo && decide (w.gap = .keep) else !w.wo || !decide (w.gap = .keep),
      if w.ws then (decide (w.fold = .first) || decide (w.fold = .second)) || (decide (w.fold = .both) && w.wo) else decide (w.fold = .both) && !w.wo)
  | .eqSums => (!w.ws || (decide (w.gap = .shift) || (decide (w.gap = .keep) && w.wo)), (decide (w.fold = .first) || decide (w.fold = .second)) || (decide (w.fold = .both) && (w.ws || !w.wo)))
/-! ### whether a rule holds for arguments -/
def fFrom (w : Way) (z : Zone) (T : Int) : Bool := match at_ w z T with
  | none => false
  | some t => decide (inst w z t = T)
def fTo (w : Way) (z : Zone) (t : Tm) : Bool := decide (at_ w z (inst w z t) = some t)
def fEvery (w : Way) (z : Zone) (rd : Int) : Bool := match read_ w z rd with
  | none => false
  | some t => decide (t.1 = rd)
def fSome (w : Way) (z : Zone) (rd : Int) : Bool := (read_ w z rd).isSome
def fSame (w : Way) (z : Zone) (t : Tm) : Bool := match addT w z (some t) 24 with
  | none => false
  | some u => decide (u.1 = t.1 + 24)
def fMoved (w : Way) (z : Zone) (r : Rule) (t : Tm) (d e : Int) : Bool := match addT w z (some t) d with
  | none => decide (r = .later) && decide (d ≤ 0)
  | some a => match r with
    | .there => decide (addT w z (some a) (0 - d) = some t)
    | .sumD => (match addT w z (some a) e with
      | none => false
      | some b => decide (some b = addT w z (some t) (d + e)))
    | .elapsed => decide (inst w z a - inst w z t = d)
    | .told => true
    | _ => decide (d ≤ 0) || decide (cmp (key w z t) (key w z a) = -1)
def fTwo (w : Way) (z : Zone) (r : Rule) (t u : Tm) (d : Int) : Bool := match r with
  | .diff => decide (addT w z (some t) (less_ w z u t) = some u)
  | .ordDiff => decide (cmp (key w z t) (key w z u) < 0) == decide (less_ w z u t > 0)
  | .ordInst => decide (cmp (key w z t) (key w z u) < 0) == decide (inst w z t < inst w z u)
  | .kept => !decide (cmp (key w z t) (key w z u) = -1) || decide (order w z (addT w z (some t) d) (addT w z (some u) d) = some (-1))
  | .eqSums => !decide (cmp (key w z t) (key w z u) = 0) || decide (order w z (addT w z (some t) d) (addT w z (some u) d) = some 0)
  | .eqOne => !decide (cmp (key w z t) (key w z u) = 0) || decide (inst w z t = inst w z u)
  | .oneEq => !decide (inst w z t = inst w z u) || decide (cmp (key w z t) (key w z u) = 0)
  | _ => !decide (inst w z t = inst w z u) || decide (t = u)
/-! ### comparing -/
theorem cmp_lt {a b : Int} : cmp a b = -1 ↔ a < b := by
  unfold cmp
  split <;> (try split) <;> omega
theorem cmp_eq {a b : Int} : cmp a b = 0 ↔ a = b := by
  unfold cmp
  split <;> (try split) <;> omega
theorem cmp_neg {a b : Int} : cmp a b < 0 ↔ a < b := by
  unfold cmp
  split <;> (try split) <;> omega
section
variable {w : Way} {z : Zone} (h : OkZ z)
include h
theorem out_gap {t : Tm} (q : IsTm w z t) (c : w.gap ≠ .keep ∨ NoGap z) : insts z t.1 ≠ [] := by
  intro e
  rcases c with c | c
  · rcases tm_cases h q with ⟨T, e', _⟩ | ⟨A, B, e', _⟩ | ⟨_, k, _⟩
    · rw [e] at e'; cases e'
    · rw [e] at e'; cases e'
    · exact c k
  · exact c _ e
theorem read_plain {rd : Int} (c : insts z rd = [] → w.gap = .keep) (nr : w.fold ≠ .refuse ∨ NoFold z) : read_ w z rd = some (rd, 0) := by
  unfold read_
  by_cases e : insts z rd = []
  · rw [if_pos e, c e]
  · rw [if_neg e, if_neg]
    rintro ⟨q1, q2⟩
    rcases nr with nr | nr
    · exact nr q1
    · exact nr rd q2
theorem at_told (T : Int) (nr : w.fold ≠ .refuse ∨ NoFold z) : ∃ t, at_ w z T = some t ∧ IsTm w z t ∧ t.1 = T + off z T ∧ insts z t.1 ≠ [] := by
  have e : at_ w z T = some (T + off z T, if w.fold = .both ∧ T ≠ (insts z (T + off z T)).head?.getD 0 then 1 else 0) := by
    unfold at_
    rw [if_neg]
    rintro ⟨q1, q2⟩
    rcases nr with nr | nr
    · exact nr q2
    · exact nr _ q1
  have v := at_valid h e
  refine ⟨_, e, v.1, rfl, fun q => ?_⟩
  have s := insts_self h T
  rw [show insts z (T + off z T) = [] from q] at s
  cases s
/-- a read gives the reading itself, or a later one behind a gap -/
theorem read_told (rd : Int) (cg : w.gap ≠ .refuse ∨ NoGap z) (nr : w.fold ≠ .refuse ∨ NoFold z) :
    (read_ w z rd = some (rd, 0) ∧ (insts z rd = [] → w.gap = .keep)) ∨ (∃ s a b, InGap z rd s a b ∧ w.gap = .shift ∧ read_ w z rd = some (rd - b + a, 0) ∧ insts z (rd - b + a) = [rd - b] ∧ s ≤ rd - b) := by
  by_cases e : insts z rd = []
  · cases hg : w.gap with
    | keep => exact .inl ⟨read_plain h (fun _ => hg) nr, fun _ => rfl⟩
    | refuse =>
      rcases cg with cg | cg
      · exact (cg hg).elim
      · exact (cg _ e).elim
    | shift =>
      obtain ⟨s, a, b, G⟩ := h.gap e
      obtain ⟨g1, g2, g3, g4⟩ := gap_at h G
      refine .inr ⟨s, a, b, G, rfl, ?_, by rw [g2] at g1; exact g1, g3⟩
      unfold read_
      rw [if_pos e, hg]
      show at_ w z (rd - before z rd) = _
      rw [G.bf, at_one h g1, g2]
  · exact .inl ⟨read_plain h (fun q => (e q).elim) nr, fun q => (e q).elim⟩
theorem pass_of {rd : Int} {t : Tm} (e : read_ w z rd = some t) : IsTm w z t := read_valid h e
theorem inst_one {t : Tm} {T : Int} (q : IsTm w z t) (e : insts z t.1 = [T]) : inst w z t = T := by
  have r := inst_rd h q (by rw [e]; simp)
  have m := (insts_mem h).2 r
  rw [e] at m
  exact List.mem_singleton.mp m
/-! ### one argument -/
theorem r_from (T : Int) (hR : w.fold = .both ∨ NoFold z) : fFrom w z T = true := by
  obtain ⟨t, e, i, _⟩ := inst_at (w := w) h (T := T) (hR.imp id fun q => q _)
  unfold fFrom
  rw [e]
  exact decide_eq_true i
theorem r_to {t : Tm} (q : IsTm w z t) (hS : w.gap ≠ .keep ∨ NoGap z) : fTo w z t = true := decide_eq_true (at_inst h q (out_gap h q hS))
theorem r_every (rd : Int) (hS : w.gap = .keep ∨ NoGap z) (hR : w.fold ≠ .refuse ∨ NoFold z) : fEvery w z rd = true := by
  unfold fEvery
  rw [read_plain h (fun e => hS.elim id fun q => (q _ e).elim) hR]
  exact decide_eq_true rfl
theorem r_some (rd : Int) (hS : w.gap ≠ .refuse ∨ NoGap z) (hR : w.fold ≠ .refuse ∨ NoFold z) : fSome w z rd = true := by
  unfold fSome
  rcases read_told h rd hS hR with ⟨e, _⟩ | ⟨_, _, _, _, _, e, _⟩ <;> rw [e] <;> rfl
theorem add_w {t : Tm} {d : Int} (c : w.ws = true) : addT w z (some t) d = read_ w z (t.1 + d) := by
  unfold addT
  rw [c]
  rfl
theorem add_e {t : Tm} {d : Int} (c : w.ws = false) : addT w z (some t) d = at_ w z (inst w z t + d) := by
  unfold addT
  rw [c]
  rfl
theorem r_same {t : Tm} (q : IsTm w z t) (hS : (w.ws = true ∧ w.gap = .keep) ∨ NoGap z) (hR : (w.ws = true ∧ w.fold ≠ .refuse) ∨ NoFold z) : fSame w z t = true := by
  have nr : w.fold ≠ .refuse ∨ NoFold z := hR.imp (fun q => q.2) id
  unfold fSame
  cases c : w.ws with
  | true =>
    rw [add_w h c, read_plain h (fun e => hS.elim (fun q => q.2) fun q => (q _ e).elim) nr]
    exact decide_eq_true rfl
  | false =>
    have ng : NoGap z := hS.elim (fun q => by rw [c] at q; cases q.1) id
    have nf : NoFold z := hR.elim (fun q => by rw [c] at q; cases q.1) id
    obtain ⟨u, e, _, r, _⟩ := at_told (w := w) h (inst w z t + 24) nr
    rw [add_e h c, e]
    refine decide_eq_true ?_
    have := inst_rd h q (ng _)
    have := const_of h ng nf (inst w z t + 24) (inst w z t)
    omega
/-! ### a time and durations -/
theorem r_there {t : Tm} (q : IsTm w z t) (d e : Int) (hS : (w.ws = true ∧ w.gap = .keep) ∨ (w.ws = false ∧ w.gap ≠ .keep) ∨ NoGap z) (hR : (w.ws = true ∧ (w.fold = .first ∨ w.fold = .second)) ∨ (w.ws = false ∧ w.fold = .both) ∨ NoFold z) : fMoved w z .there t d e = true := by
  have nr : w.fold ≠ .refuse ∨ NoFold z := by
    rcases hR with ⟨_, f | f⟩ | ⟨_, f⟩ | f
    · exact .inl (by rw [f]; simp)
    · exact .inl (by rw [f]; simp)
    · exact .inl (by rw [f]; simp)
    · exact .inr f
  unfold fMoved
  cases c : w.ws with
  | true =>
    have kp : ∀ rd, insts z rd = [] → w.gap = .keep := fun rd e => by
      rcases hS with q | q | q
      · exact q.2
      · rw [c] at q; cases q.1
      · exact (q _ e).elim
    rw [add_w h c, read_plain h (kp _) nr]
    simp only
    rw [add_w h c, read_plain h (kp _) nr]
    have p0 : t.2 = 0 := by
      rcases q.pass with p | p
      · exact p
      · rcases hR with ⟨_, f | f⟩ | ⟨f, _⟩ | f
        · rw [f] at p; cases p.2.1
        · rw [f] at p; cases p.2.1
        · rw [c] at f; cases f
        · exact (f _ p.2.2).elim
    refine decide_eq_true ?_
    show some (t.1 + d + (0 - d), (0 : Int)) = some t
    rw [show t.1 + d + (0 - d) = t.1 by omega, ← p0]
  | false =>
    have og := out_gap h q (hS.elim (fun q => by rw [c] at q; cases q.1) fun q => q.imp (fun q => q.2) id)
    obtain ⟨u, e1, i1, r1, v1, g1⟩ := inst_at (w := w) h (T := inst w z t + d) (by
      rcases hR with ⟨f, _⟩ | ⟨_, f⟩ | f
      · rw [c] at f; cases f
      · exact .inl f
      · exact .inr (f _))
    rw [add_e h c, e1]
    simp only
    rw [add_e h c, i1, show inst w z t + d + (0 - d) = inst w z t by omega]
    exact decide_eq_true (at_inst h q og)
theorem r_sum {t : Tm} (q : IsTm w z t) (d e : Int) (hS : w.ws = false ∨ w.gap = .keep ∨ NoGap z) (hR : (w.ws = true ∧ w.fold ≠ .refuse) ∨ (w.ws = false ∧ w.fold = .both) ∨ NoFold z) : fMoved w z .sumD t d e = true := by
  unfold fMoved
  cases c : w.ws with
  | true =>
    have nr : w.fold ≠ .refuse ∨ NoFold z := by
      rcases hR with f | f | f
      · exact .inl f.2
      · rw [c] at f; cases f.1
      · exact .inr f
    have kp : ∀ rd, insts z rd = [] → w.gap = .keep := fun rd e => by
      rcases hS with q | q | q
      · rw [c] at q; cases q
      · exact q
      · exact (q _ e).elim
    rw [add_w h c, read_plain h (kp _) nr]
    simp only
    rw [add_w h c, read_plain h (kp _) nr, add_w h c, read_plain h (kp _) nr]
    simp only
    exact decide_eq_true (by rw [Int.add_assoc])
  | false =>
    have c2 : ∀ T, w.fold = .both ∨ (insts z (T + off z T)).length ≠ 2 := fun T => by
      rcases hR with f | f | f
      · rw [c] at f; cases f.1
      · exact .inl f.2
      · exact .inr (f _)
    obtain ⟨u, e1, i1, r1, v1, g1⟩ := inst_at (w := w) h (T := inst w z t + d) (c2 _)
    obtain ⟨v, e2, i2, r2, v2, g2⟩ := inst_at (w := w) h (T := inst w z t + d + e) (c2 _)
    rw [add_e h c, e1]
    simp only
    rw [add_e h c, i1, e2, add_e h c, show inst w z t + (d + e) = inst w z t + d + e by omega, e2]
    exact decide_eq_true rfl
theorem r_elapsed {t : Tm} (q : IsTm w z t) (d e : Int) (hS : w.ws = false ∨ NoGap z) (hR : (w.ws = false ∧ w.fold = .both) ∨ NoFold z) : fMoved w z .elapsed t d e = true := by
  unfold fMoved
  cases c : w.ws with
  | true =>
    have ng : NoGap z := hS.elim (fun q => by rw [c] at q; cases q) id
    have nf : NoFold z := hR.elim (fun q => by rw [c] at q; cases q.1) id
    have rp := read_plain (w := w) h (rd := t.1 + d) (fun e => (ng _ e).elim) (.inr nf)
    rw [add_w h c, rp]
    refine decide_eq_true ?_
    have v := read_valid h rp
    have := inst_rd h q (ng _)
    have := inst_rd h v (ng _)
    have := const_of h ng nf (inst w z (t.1 + d, 0)) (inst w z t)
    show inst w z (t.1 + d, 0) - inst w z t = d
    simp only at *
    omega
  | false =>
    obtain ⟨u, e1, i1, r1, v1, g1⟩ := inst_at (w := w) h (T := inst w z t + d) (hR.imp (fun q => q.2) fun q => q _)
    rw [add_e h c, e1]
    exact decide_eq_true (by rw [i1]; omega)
theorem r_told {t : Tm} (q : IsTm w z t) (d e : Int) (hS : w.ws = false ∨ w.gap ≠ .refuse ∨ NoGap z) (hR : w.fold ≠ .refuse ∨ NoFold z) : fMoved w z .told t d e = true := by
  unfold fMoved
  cases c : w.ws with
  | true =>
    rw [add_w h c]
    rcases read_told h (t.1 + d) (hS.elim (fun q => by rw [c] at q; cases q) id) hR with ⟨e, _⟩ | ⟨_, _, _, _, _, e, _⟩ <;> rw [e] <;> rfl
  | false =>
    obtain ⟨u, e1, _⟩ := at_told (w := w) h (inst w z t + d) hR
    rw [add_e h c, e1]
end
section
variable {w : Way} {z : Zone} (h : OkZ z)
include h
theorem read_tm {u : Tm} (q : IsTm w z u) (p : u.2 = 0) : read_ w z u.1 = some u := by
  have e : some (u.1, (0 : Int)) = some u := by rw [← p]
  rw [← e]
  unfold read_
  rcases tm_cases h q with ⟨T, e', _⟩ | ⟨A, B, e', nr, _⟩ | ⟨e', k, _⟩
  · rw [e', if_neg (by simp), if_neg (by simp)]
  · rw [e', if_neg (by simp), if_neg (fun q => nr q.1)]
  · rw [if_pos e', k]
theorem pass0_of {u : Tm} (q : IsTm w z u) (cf : w.fold ≠ .both ∨ NoFold z) : u.2 = 0 := by
  rcases q.pass with p | p
  · exact p
  · rcases cf with cf | cf
    · exact (cf p.2.1).elim
    · exact (cf _ p.2.2).elim
theorem mono_iff {t u : Tm} (qt : IsTm w z t) (qu : IsTm w z u) (ct : insts z t.1 ≠ []) (cu : insts z u.1 ≠ []) (cf : w.fold ≠ .both ∨ NoFold z) : t.1 < u.1 ↔ inst w z t < inst w z u := by
  have cf' : ∀ x : Tm, w.fold ≠ .both ∨ (insts z x.1).length ≠ 2 := fun x => cf.imp id fun q => q _
  constructor
  · exact mono_lt h qt qu ct cu (cf' t)
  · intro lt
    rcases Int.lt_trichotomy t.1 u.1 with c | c | c
    · exact c
    · rw [tm_eq h qt qu (cf' t) c] at lt
      omega
    · have := mono_lt h qu qt cu ct (cf' u) c
      omega
theorem nofold_lt (nf : NoFold z) {X Y : Int} (lt : X < Y) : X + off z X < Y + off z Y := by
  by_cases c : X + off z X < Y + off z Y
  · exact c
  · obtain ⟨s, s1, s2, s3, s4, s5, s6, s7⟩ := h.cross lt (by omega)
    have y := s7 (X + off z X - off z Y) (by omega) (by omega)
    have m1 := insts_self h X
    have m2 : X + off z X - off z Y ∈ insts z (X + off z X) := (insts_mem h).2 (by omega)
    have l := nf (X + off z X)
    have l2 := h.le2 (X + off z X)
    match q : insts z (X + off z X) with
    | [] => rw [q] at m1; cases m1
    | [a] =>
      rw [q] at m1 m2
      have := List.mem_singleton.mp m1
      have := List.mem_singleton.mp m2
      omega
    | [a, b] => rw [q] at l; exact (l rfl).elim
    | a :: b :: c :: r => rw [q] at l2; simp at l2
theorem key_w {t : Tm} (c : w.wo = true) : key w z t = t.1 := by
  unfold key
  rw [c]
  rfl
theorem key_e {t : Tm} (c : w.wo = false) : key w z t = inst w z t := by
  unfold key
  rw [c]
  rfl
/-! ### two times -/
theorem r_diff {t u : Tm} (qt : IsTm w z t) (qu : IsTm w z u) (d : Int) (hS : w.ws = true ∨ w.gap ≠ .keep ∨ NoGap z) (hR : w.ws = false ∨ w.fold ≠ .both ∨ NoFold z) : fTwo w z .diff t u d = true := by
  unfold fTwo less_
  refine decide_eq_true ?_
  cases c : w.ws with
  | true =>
    rw [if_pos rfl, add_w h c, show t.1 + (u.1 - t.1) = u.1 by omega]
    exact read_tm h qu (pass0_of h qu (hR.elim (fun q => by rw [c] at q; cases q) id))
  | false =>
    rw [if_neg (by decide), add_e h c, show inst w z t + (inst w z u - inst w z t) = inst w z u by omega]
    exact at_inst h qu (out_gap h qu (hS.elim (fun q => by rw [c] at q; cases q) id))
theorem r_ordInst {t u : Tm} (qt : IsTm w z t) (qu : IsTm w z u) (d : Int) (hS : w.wo = false ∨ w.gap ≠ .keep ∨ NoGap z) (hR : w.wo = false ∨ w.fold ≠ .both ∨ NoFold z) : fTwo w z .ordInst t u d = true := by
  unfold fTwo
  refine beq_iff_eq.mpr (decide_eq_decide.mpr ?_)
  rw [cmp_neg]
  cases c : w.wo with
  | false => rw [key_e h c, key_e h c]
  | true =>
    have f : ∀ {p : Prop}, (w.wo = false ∨ p) → p := fun q => q.elim (fun q => by rw [c] at q; cases q) id
    rw [key_w h c, key_w h c]
    exact mono_iff h qt qu (out_gap h qt (f hS)) (out_gap h qu (f hS)) (f hR)
theorem r_ordDiff {t u : Tm} (qt : IsTm w z t) (qu : IsTm w z u) (d : Int) (hS : w.ws = w.wo ∨ w.gap ≠ .keep ∨ NoGap z) (hR : w.ws = w.wo ∨ w.fold ≠ .both ∨ NoFold z) : fTwo w z .ordDiff t u d = true := by
  unfold fTwo less_
  refine beq_iff_eq.mpr (decide_eq_decide.mpr ?_)
  rw [cmp_neg]
  by_cases al : w.ws = w.wo
  · cases c : w.wo with
    | true =>
      rw [c] at al
      rw [key_w h c, key_w h c, al, if_pos rfl]
      omega
    | false =>
      rw [c] at al
      rw [key_e h c, key_e h c, al, if_neg (by decide)]
      omega
  · have m := mono_iff h qt qu (out_gap h qt (hS.resolve_left al)) (out_gap h qu (hS.resolve_left al)) (hR.resolve_left al)
    cases c : w.wo with
    | true =>
      have c2 : w.ws = false := by
        cases e : w.ws with
        | false => rfl
        | true => rw [e, c] at al; exact (al rfl).elim
      rw [key_w h c, key_w h c, c2, if_neg (by decide), m]
      omega
    | false =>
      have c2 : w.ws = true := by
        cases e : w.ws with
        | true => rfl
        | false => rw [e, c] at al; exact (al rfl).elim
      rw [key_e h c, key_e h c, c2, if_pos rfl, ← m]
      omega
theorem imp_b {p q : Prop} [Decidable p] [Decidable q] (i : p → q) : (!decide p || decide q) = true := by
  by_cases c : p
  · rw [decide_eq_true c, decide_eq_true (i c)]
    rfl
  · rw [decide_eq_false c]
    rfl
theorem r_eqOne {t u : Tm} (qt : IsTm w z t) (qu : IsTm w z u) (d : Int) (hR : w.wo = false ∨ w.fold ≠ .both ∨ NoFold z) : fTwo w z .eqOne t u d = true := by
  unfold fTwo
  refine imp_b h fun e => ?_
  rw [cmp_eq] at e
  cases c : w.wo with
  | false =>
    rw [key_e h c, key_e h c] at e
    exact e
  | true =>
    rw [key_w h c, key_w h c] at e
    rw [tm_eq h qt qu ((hR.elim (fun q => by rw [c] at q; cases q) id).imp id fun q => q _) e]
theorem r_oneEq {t u : Tm} (qt : IsTm w z t) (qu : IsTm w z u) (d : Int) (hS : w.wo = false ∨ w.gap ≠ .keep ∨ NoGap z) : fTwo w z .oneEq t u d = true := by
  unfold fTwo
  refine imp_b h fun e => ?_
  rw [cmp_eq]
  cases c : w.wo with
  | false =>
    rw [key_e h c, key_e h c]
    exact e
  | true =>
    have g := hS.elim (fun q => by rw [c] at q; cases q) id
    have r1 := inst_rd h qt (out_gap h qt g)
    have r2 := inst_rd h qu (out_gap h qu g)
    rw [key_w h c, key_w h c, ← r1, ← r2, e]
theorem r_oneOne {t u : Tm} (qt : IsTm w z t) (qu : IsTm w z u) (d : Int) (hS : w.gap ≠ .keep ∨ NoGap z) : fTwo w z .oneOne t u d = true := by
  unfold fTwo
  refine imp_b h fun e => ?_
  have r1 := at_inst h qt (out_gap h qt hS)
  have r2 := at_inst h qu (out_gap h qu hS)
  rw [e, r2] at r1
  exact (Option.some.inj r1).symm
theorem r_later {t : Tm} (q : IsTm w z t) (d e : Int) (hS : w.ws = false ∨ w.gap = .shift ∨ (w.gap = .keep ∧ w.wo = true) ∨ NoGap z)
    (hR : w.fold = .second ∨ (w.ws = true ∧ w.fold = .first) ∨ (w.fold = .both ∧ w.ws = w.wo) ∨ NoFold z) : fMoved w z .later t d e = true := by
  have nr : w.fold ≠ .refuse ∨ NoFold z := by
    rcases hR with f | ⟨_, f⟩ | ⟨f, _⟩ | f
    · exact .inl (by rw [f]; simp)
    · exact .inl (by rw [f]; simp)
    · exact .inl (by rw [f]; simp)
    · exact .inr f
  have main : d ≤ 0 ∨ ∃ a, addT w z (some t) d = some a ∧ key w z t < key w z a := by
    by_cases d0 : d ≤ 0
    · exact .inl d0
    refine .inr ?_
    cases c : w.ws with
    | false =>
      rw [add_e h c]
      obtain ⟨u, e1, v1, r1, g1⟩ := at_told (w := w) h (inst w z t + d) nr
      refine ⟨u, e1, ?_⟩
      cases c2 : w.wo with
      | false =>
        rw [key_e h c2, key_e h c2]
        have X : inst w z t + d ∈ insts z u.1 := by rw [r1]; exact insts_self h _
        by_cases sec : w.fold = .second
        · rcases tm_cases h v1 with ⟨T, e', i, _⟩ | ⟨A, B, e', _, k⟩ | ⟨e', _⟩
          · rw [e'] at X
            have := List.mem_singleton.mp X
            omega
          · have pr := h.pair e'
            rw [e'] at X
            simp only [List.mem_cons, List.not_mem_nil, or_false] at X
            rcases k with ⟨_, f, _⟩ | ⟨_, _, i⟩ | ⟨_, f, _⟩
            · exact (f sec).elim
            · omega
            · rw [sec] at f; cases f
          · exact (g1 e').elim
        · obtain ⟨u', e2, i2, _⟩ := inst_at (w := w) h (T := inst w z t + d) (by
            rcases hR with f | ⟨f, _⟩ | ⟨f, _⟩ | f
            · exact (sec f).elim
            · rw [c] at f; cases f
            · exact .inl f
            · exact .inr (f _))
          rw [e1] at e2
          have e3 := Option.some.inj e2
          rw [e3, i2]
          omega
      | true =>
        rw [key_w h c2, key_w h c2, r1]
        have sn : w.fold = .second ∨ NoFold z := by
          rcases hR with f | ⟨f, _⟩ | ⟨_, f⟩ | f
          · exact .inl f
          · rw [c] at f; cases f
          · rw [c, c2] at f; cases f
          · exact .inr f
        by_cases g : insts z t.1 = []
        · obtain ⟨s, a, b, G⟩ := h.gap g
          rcases tm_cases h q with ⟨T, e', _⟩ | ⟨A, B, e', _⟩ | ⟨_, _, _, i⟩
          · rw [g] at e'; cases e'
          · rw [g] at e'; cases e'
          · rw [G.bf] at i
            have := G.lo
            exact gap_later h G (by omega)
        · have rt := inst_rd h q g
          by_cases cc : t.1 < inst w z t + d + off z (inst w z t + d)
          · exact cc
          · obtain ⟨s, s1, s2, s3, s4, s5, s6, s7⟩ := h.cross (U := inst w z t) (T := inst w z t + d) (by omega) (by omega)
            have y := s7 (t.1 - off z (inst w z t + d)) (by omega) (by omega)
            have m2 : t.1 - off z (inst w z t + d) ∈ insts z t.1 := (insts_mem h).2 (by omega)
            rcases tm_cases h q with ⟨T, e', i, _⟩ | ⟨A, B, e', _, k⟩ | ⟨e', _⟩
            · rw [e'] at m2
              have := List.mem_singleton.mp m2
              omega
            · have pr := h.pair e'
              rcases sn with sn | sn
              · rw [e'] at m2
                simp only [List.mem_cons, List.not_mem_nil, or_false] at m2
                rcases k with ⟨_, f, _⟩ | ⟨_, _, i⟩ | ⟨_, f, _⟩
                · exact (f sn).elim
                · omega
                · rw [sn] at f; cases f
              · exact (sn _ (by rw [e'] <;> rfl)).elim
            · exact (g e').elim
    | true =>
      rw [add_w h c]
      have cg : w.gap ≠ .refuse ∨ NoGap z := by
        rcases hS with f | f | ⟨f, _⟩ | f
        · rw [c] at f; cases f
        · exact .inl (by rw [f]; simp)
        · exact .inl (by rw [f]; simp)
        · exact .inr f
      have eg : w.wo = false → w.gap ≠ .keep ∨ NoGap z := fun c2 => by
        rcases hS with f | f | ⟨_, f⟩ | f
        · rw [c] at f; cases f
        · exact .inl (by rw [f]; simp)
        · rw [c2] at f; cases f
        · exact .inr f
      rcases read_told h (t.1 + d) cg nr with ⟨e1, kp⟩ | ⟨s, a, b, G, sh, e1, one, sle⟩
      · refine ⟨_, e1, ?_⟩
        cases c2 : w.wo with
        | true =>
          rw [key_w h c2, key_w h c2]
          show t.1 < t.1 + d
          omega
        | false =>
          rw [key_e h c2, key_e h c2]
          have v := read_valid h e1
          refine mono_lt h q v (out_gap h q (eg c2)) (out_gap h v (eg c2)) ?_ (by show t.1 < t.1 + d; omega)
          rcases hR with f | ⟨_, f⟩ | ⟨_, f⟩ | f
          · exact .inl (by rw [f]; simp)
          · exact .inl (by rw [f]; simp)
          · rw [c, c2] at f; cases f
          · exact .inr (f _)
      · refine ⟨_, e1, ?_⟩
        have v := read_valid h e1
        have := G.lt
        cases c2 : w.wo with
        | true =>
          rw [key_w h c2, key_w h c2]
          show t.1 < t.1 + d - b + a
          omega
        | false =>
          rw [key_e h c2, key_e h c2, inst_one h v one]
          have rt := inst_rd h q (out_gap h q (eg c2))
          have := gap_earlier h G (T := inst w z t) (by omega)
          omega
  unfold fMoved
  rcases main with m | ⟨a, e1, lt⟩
  · cases addT w z (some t) d with
    | none => simp [m]
    | some a => simp [m]
  · rw [e1]
    show (decide (d ≤ 0) || decide (cmp (key w z t) (key w z a) = -1)) = true
    rw [decide_eq_true (cmp_lt.mpr lt), Bool.or_true]
theorem order_some {a b : Tm} : order w z (some a) (some b) = some (cmp (key w z a) (key w z b)) := rfl
theorem r_kept {t u : Tm} (qt : IsTm w z t) (qu : IsTm w z u) (d : Int) (hS : (w.ws = true ∧ w.wo = true ∧ w.gap = .keep) ∨ (w.ws = false ∧ (w.wo = false ∨ w.gap ≠ .keep)) ∨ NoGap z)
    (hR : (w.ws = true ∧ (w.fold = .first ∨ w.fold = .second)) ∨ (w.ws = true ∧ w.fold = .both ∧ w.wo = true) ∨ (w.ws = false ∧ w.fold = .both ∧ w.wo = false) ∨ NoFold z) : fTwo w z .kept t u d = true := by
  unfold fTwo
  refine imp_b h fun e => ?_
  rw [cmp_lt] at e
  cases c : w.ws with
  | false =>
    rw [add_e h c, add_e h c]
    cases c2 : w.wo with
    | false =>
      have cc : ∀ T, w.fold = .both ∨ (insts z (T + off z T)).length ≠ 2 := fun T => by
        rcases hR with ⟨f, _⟩ | ⟨f, _⟩ | ⟨_, f, _⟩ | f
        · rw [c] at f; cases f
        · rw [c] at f; cases f
        · exact .inl f
        · exact .inr (f _)
      obtain ⟨a, e1, i1, _⟩ := inst_at (w := w) h (T := inst w z t + d) (cc _)
      obtain ⟨b, e2, i2, _⟩ := inst_at (w := w) h (T := inst w z u + d) (cc _)
      rw [key_e h c2, key_e h c2] at e
      rw [e1, e2, order_some h, key_e h c2, key_e h c2, i1, i2, cmp_lt.mpr (by omega)]
    | true =>
      have nf : NoFold z := by
        rcases hR with ⟨f, _⟩ | ⟨f, _⟩ | ⟨_, _, f⟩ | f
        · rw [c] at f; cases f
        · rw [c] at f; cases f
        · rw [c2] at f; cases f
        · exact f
      have g : w.gap ≠ .keep ∨ NoGap z := by
        rcases hS with ⟨f, _⟩ | ⟨_, f⟩ | f
        · rw [c] at f; cases f
        · rcases f with f | f
          · rw [c2] at f; cases f
          · exact .inl f
        · exact .inr f
      rw [key_w h c2, key_w h c2] at e
      have lt := mono_lt h qt qu (out_gap h qt g) (out_gap h qu g) (.inr (nf _)) e
      obtain ⟨a, e1, _, r1, _⟩ := at_told (w := w) h (inst w z t + d) (.inr nf)
      obtain ⟨b, e2, _, r2, _⟩ := at_told (w := w) h (inst w z u + d) (.inr nf)
      have := nofold_lt h nf (X := inst w z t + d) (Y := inst w z u + d) (by omega)
      rw [e1, e2, order_some h, key_w h c2, key_w h c2, cmp_lt.mpr (by omega)]
  | true =>
    have nr : w.fold ≠ .refuse ∨ NoFold z := by
      rcases hR with ⟨_, f | f⟩ | ⟨_, f, _⟩ | ⟨_, f, _⟩ | f
      · exact .inl (by rw [f]; simp)
      · exact .inl (by rw [f]; simp)
      · exact .inl (by rw [f]; simp)
      · exact .inl (by rw [f]; simp)
      · exact .inr f
    have kp : ∀ rd, insts z rd = [] → w.gap = .keep := fun rd e => by
      rcases hS with ⟨_, _, q⟩ | ⟨q, _⟩ | q
      · exact q
      · rw [c] at q; cases q
      · exact (q _ e).elim
    have e1 := read_plain (w := w) h (rd := t.1 + d) (kp _) nr
    have e2 := read_plain (w := w) h (rd := u.1 + d) (kp _) nr
    rw [add_w h c, add_w h c, e1, e2, order_some h]
    cases c2 : w.wo with
    | true =>
      rw [key_w h c2, key_w h c2] at e
      rw [key_w h c2, key_w h c2, cmp_lt.mpr (by show t.1 + d < u.1 + d; omega)]
    | false =>
      have ng : NoGap z := by
        rcases hS with ⟨_, f, _⟩ | ⟨f, _⟩ | f
        · rw [c2] at f; cases f
        · rw [c] at f; cases f
        · exact f
      have cf : w.fold ≠ .both ∨ NoFold z := by
        rcases hR with ⟨_, f | f⟩ | ⟨_, _, f⟩ | ⟨f, _⟩ | f
        · exact .inl (by rw [f]; simp)
        · exact .inl (by rw [f]; simp)
        · rw [c2] at f; cases f
        · rw [c] at f; cases f
        · exact .inr f
      rw [key_e h c2, key_e h c2] at e
      have lt := (mono_iff h qt qu (ng _) (ng _) cf).2 e
      have := mono_lt h (read_valid h e1) (read_valid h e2) (ng _) (ng _) (cf.imp id fun q => q _) (by show t.1 + d < u.1 + d; omega)
      rw [key_e h c2, key_e h c2, cmp_lt.mpr this]
theorem r_eqSums {t u : Tm} (qt : IsTm w z t) (qu : IsTm w z u) (d : Int) (hS : w.ws = false ∨ w.gap = .shift ∨ (w.gap = .keep ∧ w.wo = true) ∨ NoGap z)
    (hR : (w.fold = .first ∨ w.fold = .second) ∨ (w.fold = .both ∧ (w.ws = true ∨ w.wo = false)) ∨ NoFold z) : fTwo w z .eqSums t u d = true := by
  unfold fTwo
  refine imp_b h fun e => ?_
  rw [cmp_eq] at e
  have nr : w.fold ≠ .refuse ∨ NoFold z := by
    rcases hR with (f | f) | ⟨f, _⟩ | f
    · exact .inl (by rw [f]; simp)
    · exact .inl (by rw [f]; simp)
    · exact .inl (by rw [f]; simp)
    · exact .inr f
  have fin : ∀ o : Option Tm, o.isSome = true → order w z o o = some 0 := fun o ho => by
    cases o with
    | none => cases ho
    | some a => rw [order_some h, cmp_eq.mpr rfl]
  cases c : w.ws with
  | false =>
    have same : addT w z (some t) d = addT w z (some u) d := by
      rw [add_e h c, add_e h c]
      cases c2 : w.wo with
      | false =>
        rw [key_e h c2, key_e h c2] at e
        rw [e]
      | true =>
        rw [key_w h c2, key_w h c2] at e
        have cf : w.fold ≠ .both ∨ (insts z t.1).length ≠ 2 := by
          rcases hR with (f | f) | ⟨_, f⟩ | f
          · exact .inl (by rw [f]; simp)
          · exact .inl (by rw [f]; simp)
          · rcases f with f | f
            · rw [c] at f; cases f
            · rw [c2] at f; cases f
          · exact .inr (f _)
        rw [tm_eq h qt qu cf e]
    rw [same]
    refine fin _ ?_
    obtain ⟨a, e1, _⟩ := at_told (w := w) h (inst w z u + d) nr
    rw [add_e h c, e1]
    rfl
  | true =>
    have rd : t.1 = u.1 := by
      cases c2 : w.wo with
      | true =>
        rw [key_w h c2, key_w h c2] at e
        exact e
      | false =>
        have g : w.gap ≠ .keep ∨ NoGap z := by
          rcases hS with f | f | ⟨_, f⟩ | f
          · rw [c] at f; cases f
          · exact .inl (by rw [f]; simp)
          · rw [c2] at f; cases f
          · exact .inr f
        rw [key_e h c2, key_e h c2] at e
        have r1 := inst_rd h qt (out_gap h qt g)
        have r2 := inst_rd h qu (out_gap h qu g)
        rw [← r1, ← r2, e]
    have cg : w.gap ≠ .refuse ∨ NoGap z := by
      rcases hS with f | f | ⟨f, _⟩ | f
      · rw [c] at f; cases f
      · exact .inl (by rw [f]; simp)
      · exact .inl (by rw [f]; simp)
      · exact .inr f
    rw [add_w h c, add_w h c, rd]
    refine fin _ ?_
    rcases read_told h (u.1 + d) cg nr with ⟨e1, _⟩ | ⟨_, _, _, _, _, e1, _⟩ <;> rw [e1] <;> rfl
end
/-! ### all rules -/
/-- a rule that holds for a kind holds in each of its zones -/
structure Holds (w : Way) (z : Zone) (r : Rule) : Prop where
  sk : (met w r).1 = true ∨ NoGap z
  re : (met w r).2 = true ∨ NoFold z
section
variable {w : Way} {z : Zone} (h : OkZ z)
include h
theorem all_T (T : Int) (H : Holds w z .fromU) : fFrom w z T = true := by
  refine r_from h T (H.re.imp (fun q => ?_) id)
  simpa [met] using q
theorem all_rd {r : Rule} (c : r = .every ∨ r = .someR) (rd : Int) (H : Holds w z r) : (if r = .every then fEvery w z rd else fSome w z rd) = true := by
  rcases c with rfl | rfl
  · refine r_every h rd (H.sk.imp (fun q => ?_) id) (H.re.imp (fun q => ?_) id) <;> simpa [met] using q
  · refine r_some h rd (H.sk.imp (fun q => ?_) id) (H.re.imp (fun q => ?_) id) <;> simpa [met] using q
theorem all_t {r : Rule} (c : r = .toU ∨ r = .same) {t : Tm} (q : IsTm w z t) (H : Holds w z r) : (if r = .toU then fTo w z t else fSame w z t) = true := by
  rcases c with rfl | rfl
  · refine r_to h q (H.sk.imp (fun q => ?_) id)
    simpa [met] using q
  · refine r_same h q (H.sk.imp (fun q => ?_) id) (H.re.imp (fun q => ?_) id) <;> simpa [met] using q
theorem all_moved {r : Rule} (c : r = .there ∨ r = .sumD ∨ r = .elapsed ∨ r = .later ∨ r = .told) {t : Tm} (q : IsTm w z t) (d e : Int) (H : Holds w z r) : fMoved w z r t d e = true := by
  obtain ⟨s, g⟩ := H
  rcases c with rfl | rfl | rfl | rfl | rfl
  · refine r_there h q d e ?_ ?_
    · rcases s with s | s
      · unfold met at s
        simp only [beq_iff_eq] at s
        cases c : w.ws with
        | true => rw [c] at s; exact .inl ⟨rfl, of_decide_eq_true s.symm⟩
        | false => rw [c] at s; exact .inr (.inl ⟨rfl, of_decide_eq_false s.symm⟩)
      · exact .inr (.inr s)
    · rcases g with g | g
      · unfold met at g
        cases c : w.ws with
        | true => simp [c] at g; exact .inl ⟨rfl, g⟩
        | false => simp [c] at g; exact .inr (.inl ⟨rfl, g⟩)
      · exact .inr (.inr g)
  · refine r_sum h q d e ?_ ?_
    · rcases s with s | s
      · simp [met] at s
        exact s.imp id .inl
      · exact .inr (.inr s)
    · rcases g with g | g
      · unfold met at g
        cases c : w.ws with
        | true => simp [c] at g; exact .inl ⟨rfl, g⟩
        | false => simp [c] at g; exact .inr (.inl ⟨rfl, g⟩)
      · exact .inr (.inr g)
  · refine r_elapsed h q d e (s.imp (fun q => ?_) id) (g.imp (fun q => ?_) id)
    · simpa [met] using q
    · simp [met] at q
      exact ⟨q.2, q.1⟩
  · refine r_later h q d e ?_ ?_
    · rcases s with s | s
      · simp [met] at s
        rcases s with s | s | s
        · exact .inl s
        · exact .inr (.inl s)
        · exact .inr (.inr (.inl s))
      · exact .inr (.inr (.inr s))
    · rcases g with g | g
      · simp [met] at g
        rcases g with g | g | g
        · exact .inl g
        · exact .inr (.inl g)
        · exact .inr (.inr (.inl g))
      · exact .inr (.inr (.inr g))
  · refine r_told h q d e ?_ (g.imp (fun q => ?_) id)
    · rcases s with s | s
      · simp [met] at s
        exact s.imp id .inl
      · exact .inr (.inr s)
    · simpa [met] using q
theorem all_two {r : Rule} (c : r = .diff ∨ r = .ordDiff ∨ r = .eqOne ∨ r = .oneEq ∨ r = .oneOne ∨ r = .ordInst ∨ r = .kept ∨ r = .eqSums) {t u : Tm} (qt : IsTm w z t) (qu : IsTm w z u) (d : Int) (H : Holds w z r) : fTwo w z r t u d = true := by
  obtain ⟨s, g⟩ := H
  rcases c with rfl | rfl | rfl | rfl | rfl | rfl | rfl | rfl
  · refine r_diff h qt qu d ?_ ?_
    · rcases s with s | s
      · simp [met] at s
        exact s.imp id .inl
      · exact .inr (.inr s)
    · rcases g with g | g
      · simp [met] at g
        exact g.imp id .inl
      · exact .inr (.inr g)
  · refine r_ordDiff h qt qu d ?_ ?_
    · rcases s with s | s
      · simp [met] at s
        exact s.imp id .inl
      · exact .inr (.inr s)
    · rcases g with g | g
      · simp [met] at g
        exact g.imp id .inl
      · exact .inr (.inr g)
  · refine r_eqOne h qt qu d ?_
    rcases g with g | g
    · simp [met] at g
      exact g.imp id .inl
    · exact .inr (.inr g)
  · refine r_oneEq h qt qu d ?_
    rcases s with s | s
    · simp [met] at s
      exact s.imp id .inl
    · exact .inr (.inr s)
  · refine r_oneOne h qt qu d (s.imp (fun q => ?_) id)
    simpa [met] using q
  · refine r_ordInst h qt qu d ?_ ?_
    · rcases s with s | s
      · simp [met] at s
        exact s.imp id .inl
      · exact .inr (.inr s)
    · rcases g with g | g
      · simp [met] at g
        exact g.imp id .inl
      · exact .inr (.inr g)
  · refine r_kept h qt qu d ?_ ?_
    · rcases s with s | s
      · unfold met at s
        cases c : w.ws with
        | true => simp [c] at s; exact .inl ⟨rfl, s⟩
        | false => simp [c] at s; exact .inr (.inl ⟨rfl, s⟩)
      · exact .inr (.inr s)
    · rcases g with g | g
      · unfold met at g
        cases c : w.ws with
        | true =>
          simp [c] at g
          rcases g with g | g
          · exact .inl ⟨rfl, g⟩
          · exact .inr (.inl ⟨rfl, g⟩)
        | false => simp [c] at g; exact .inr (.inr (.inl ⟨rfl, g⟩))
      · exact .inr (.inr (.inr g))
  · refine r_eqSums h qt qu d ?_ ?_
    · rcases s with s | s
      · simp [met] at s
        rcases s with s | s | s
        · exact .inl s
        · exact .inr (.inl s)
        · exact .inr (.inr (.inl s))
      · exact .inr (.inr (.inr s))
    · rcases g with g | g
      · simp [met] at g
        rcases g with g | g
        · exact .inl g
        · exact .inr (.inl g)
      · exact .inr (.inr g)
end
local macro_rules | `(tactic| walk_at "m") => `(tactic| first
  | with_reducible refine g_m1 ?_
  | with_reducible refine g_isS ?_
  | with_reducible refine g_lcStr ?_
  | with_reducible refine g_join ?_
  | with_reducible refine g_js ?_
  | with_reducible refine g_jsN ?_
  | with_reducible refine g_fmt ?_
  | with_reducible refine g_callLam ?_
  | with_reducible refine g_revT ?_)

theorem g_dgetS {td ty : TE} {σ : St} {H : Hp} {Q : VK} (h : td σ H fun x H1 => ty σ H1 fun y H2 => ∃ a v, x = .ref a ∧ DGet H2 a y (some v) ∧ Q v H2) : tDGet td ty σ H Q := h
def allR : List Rule := [.fromU, .toU, .every, .someR, .there, .sumD, .elapsed, .same, .later, .told, .diff, .ordDiff, .eqOne, .oneEq, .oneOne, .ordInst, .kept, .eqSums]
theorem allR_mem (r : Rule) : r ∈ allR := by cases r <;> decide
theorem ruleS_inj {r q : Rule} (h : ruleS r = ruleS q) : r = q := by
  have a : (allR.all fun r => allR.all fun q => !decide (ruleS r = ruleS q) || decide (r = q)) = true := by decide +kernel
  have b := List.all_eq_true.mp (List.all_eq_true.mp a r (allR_mem r)) q (allR_mem q)
  rw [decide_eq_true h] at b
  exact of_decide_eq_true b
theorem rule_is {r : Rule} (q : Rule) (s : Str) (e : ruleS q = s) : decide (ruleS r = s) = decide (r = q) := by
  subst e
  exact decide_eq_decide.mpr ⟨ruleS_inj, fun h => by rw [h]⟩
/-- the words for the arguments of a rule -/
def shapeR : Rule → List Str
  | .fromU => ["instant"]
  | .toU => ["time"]
  | .every => ["reading"]
  | .someR => ["reading"]
  | .there => ["time", "duration"]
  | .sumD => ["time", "duration", "duration"]
  | .elapsed => ["time", "duration"]
  | .same => ["time"]
  | .later => ["time", "duration"]
  | .told => ["time", "duration"]
  | .kept => ["time", "time", "duration"]
  | .eqSums => ["time", "time", "duration"]
  | _ => ["time", "time"]
def RuleV (r : Rule) : V := .str (ruleS r)
/-! ### promises -/
def sp_law_rules (K : PySem.W.Frag) : Sp := fun vs H Q _ => vs = [] ∧ ∀ p H', H p = none → Ex H H' → H' p = some (.lst (allR.map RuleV)) → Q (.ref p) H'
def sp_law_shape (K : PySem.W.Frag) : Sp := fun vs H Q _ => ∃ r : Rule, vs = [.str (ruleS r)] ∧ ∀ p H', Ex H H' → SqT K H' p ((shapeR r).map V.str) → Q (.ref p) H'
def sp_law_met (K : PySem.W.Frag) : Sp := fun vs H Q _ => ∃ (wv : V) (w : Way) (r : Rule), vs = [wv, .str (ruleS r)] ∧ WayV K H wv w ∧ ∀ v H', Ex H H' → BP K H' v (met w r) → Q v H'
/-- whether a rule holds for a kind, by its conditions -/
def holdsB (w : Way) (kind : Str) (r : Rule) : Bool :=
  ((met w r).1 || (decide ("fixed" = kind) || (decide ("repeats" = kind) || false))) && ((met w r).2 || (decide ("fixed" = kind) || (decide ("skips" = kind) || false)))
def sp_law_holds (K : PySem.W.Frag) : Sp := fun vs H Q _ => ∃ (wv : V) (w : Way) (kind : Str) (r : Rule), vs = [wv, .str kind, .str (ruleS r)] ∧ WayV K H wv w ∧ ∀ H', Ex H H' → Q (.bl (holdsB w kind r)) H'
theorem mono_BP {K : PySem.W.Frag} {w : Way} : ∀ {H : Hp} (H' : Hp) (v : V) (r : Rule), TrT K H H' → BP K H v (met w r) → BP K H' v (met w r) := fun _ _ _ e h => h.tr e
/-! one store, two stores of the dict of conditions -/
section
variable {K : PySem.W.Frag} {w : Way} {D : Addr} {H0 H : Hp} {σ : St} {n : St → Hp → Prop} {rt : VK} {bk ct : St → Hp → Prop} {rs : List Rule} {ta tb tc td : TE}
abbrev MetAt (K : PySem.W.Frag) (w : Way) (H : Hp) (D : Addr) (rs : List Rule) : Prop := DictAt K ruleS (fun H' v r => BP K H' v (met w r)) H D rs
theorem met_put (r : Rule) {v : V} {R : Hp → Prop} (h : MetAt K w H D rs) (e0 : Ex H0 H) (n0 : H0 D = none) (no : r ∉ rs) (few : rs.length < 1000) (hv : BP K H v (met w r))
    (k : ∀ H', Ex H0 H' → Fr D H H' → MetAt K w H' D (rs ++ [r]) → R H') : rSetD (.ref D) (.str (ruleS r)) v H R :=
  DictAt.put h mono_BP (fun x hx e => no (ruleS_inj e ▸ hx)) few hv fun H' f d => k H' (ex_fr e0 n0 f) f d
theorem met_one (r : Rule) (h : MetAt K w H D rs) (e0 : Ex H0 H) (n0 : H0 D = none) (hD : σ[11]? = some (some (.ref D))) (no : r ∉ rs) (few : rs.length < 1000)
    (h1 : ∀ H, EvV ta σ H (.bl (met w r).1)) (h2 : ∀ H, EvV tb σ H (.bl (met w r).2)) (k : ∀ H', Ex H0 H' → MetAt K w H' D (rs ++ [r]) → n σ H') :
    tAsg (tTup (tCons ta (tCons tb tNil))) (gSub (tVar 11) (tC (.str (ruleS r))) rSetD) (Ends.mk n rt bk ct) σ H := by
  refine g_asg ?_
  refine g_pairB (h1 _) (h2 _) fun p H1 n1 e1 p1 => ?_
  refine g_sub ?_
  refine g_var hD ?_
  refine g_c ?_
  exact met_put r (h.tr e1 mono_BP) (e0.trans e1) n0 no few ⟨p, rfl, SqT.of p1⟩ fun H' e f d => k H' e d
theorem met_two (r q : Rule) (h : MetAt K w H D rs) (e0 : Ex H0 H) (n0 : H0 D = none) (hD : σ[11]? = some (some (.ref D))) (no : r ∉ rs) (no2 : q ∉ rs ++ [r]) (few : rs.length < 900)
    (h1 : ∀ H, EvV ta σ H (.bl (met w r).1)) (h2 : ∀ H, EvV tb σ H (.bl (met w r).2)) (h3 : ∀ H, EvV tc σ H (.bl (met w q).1)) (h4 : ∀ H, EvV td σ H (.bl (met w q).2))
    (k : ∀ H', Ex H0 H' → MetAt K w H' D ((rs ++ [r]) ++ [q]) → n σ H') :
    tAsg (tTup (tCons (tTup (tCons ta (tCons tb tNil))) (tCons (tTup (tCons tc (tCons td tNil))) tNil)))
      (gTup K 2 (gCons (gSub (tVar 11) (tC (.str (ruleS r))) rSetD) (gCons (gSub (tVar 11) (tC (.str (ruleS q))) rSetD) gNil))) (Ends.mk n rt bk ct) σ H := by
  refine g_asg ?_
  refine g_tup ?_
  refine g_cons ?_
  refine g_pairB (h1 _) (h2 _) fun p1 H1 n1 e1 q1 => ?_
  refine g_cons ?_
  refine g_pairB (h3 _) (h4 _) fun p2 H2 n2 e2 q2 => ?_
  refine g_nil ?_
  refine g_newT (by simp) fun p3 H3 n3 e3 q3 => ?_
  refine g_gtup (SqT.of q3) rfl ?_
  have e03 : Ex H H3 := (e1.trans e2).trans e3
  refine g_gcons ?_
  refine g_sub ?_
  refine g_var hD ?_
  refine g_c ?_
  refine met_put r (h.tr e03 mono_BP) (e0.trans e03) n0 no (by omega) ⟨p1, rfl, SqT.of (e3 _ _ (e2 _ _ q1))⟩ fun H4 e4 f4 d4 => ?_
  refine g_gcons ?_
  refine g_sub ?_
  refine g_var hD ?_
  refine g_c ?_
  have tr : TrT K H3 H4 := DictAt.trT (h.tr e03 mono_BP) f4
  refine met_put q d4 e4 n0 no2 (by rw [List.length_append]; simp; omega) ⟨p2, rfl, tr _ _ (SqT.of (e3 _ _ q2))⟩ fun H5 e5 f5 d5 => ?_
  exact g_gnil (k H5 e5 d5)
end
theorem sum_eq (a b : Bool) : decide (sumS a = sumS b) = (a == b) := by cases a <;> cases b <;> decide +kernel
theorem fold_plain (f : Fold) : inV (.str (foldS f)) [.str "first", .str "second"] = (decide (f = .first) || decide (f = .second)) := by cases f <;> decide +kernel
/-- the slots of the conditions' def, while the dict is filled -/
structure MS (w : Way) (r : Rule) (D : Addr) (σ : St) : Prop where
  s1 : σ[1]? = some (some (.str (ruleS r)))
  s2 : σ[2]? = some (some (.bl w.ws))
  s3 : σ[3]? = some (some (.bl w.wo))
  s4 : σ[4]? = some (some (.str (gapS w.gap)))
  s5 : σ[5]? = some (some (.str (foldS w.fold)))
  s6 : σ[6]? = some (some (.bl (decide (w.gap = .keep))))
  s7 : σ[7]? = some (some (.bl (decide (w.fold = .both))))
  s8 : σ[8]? = some (some (.bl (w.ws == w.wo)))
  s9 : σ[9]? = some (some (.bl (!decide (w.fold = .refuse))))
  s10 : σ[10]? = some (some (.bl (decide (w.fold = .first) || decide (w.fold = .second))))
  s11 : σ[11]? = some (some (.ref D))
  len : 13 < σ.length
theorem MS.put {w : Way} {r : Rule} {D : Addr} {σ : St} {j : Nat} {v : Option V} (hj : 11 < j) (s : MS w r D σ) : MS w r D (σ.set j v) := by
  have q : ∀ i, i ≤ 11 → (σ.set j v)[i]? = σ[i]? := fun i hi => List.getElem?_set_ne (by omega)
  exact ⟨by rw [q _ (by decide)]; exact s.s1, by rw [q _ (by decide)]; exact s.s2, by rw [q _ (by decide)]; exact s.s3, by rw [q _ (by decide)]; exact s.s4, by rw [q _ (by decide)]; exact s.s5,
    by rw [q _ (by decide)]; exact s.s6, by rw [q _ (by decide)]; exact s.s7, by rw [q _ (by decide)]; exact s.s8, by rw [q _ (by decide)]; exact s.s9, by rw [q _ (by decide)]; exact s.s10, by rw [q _ (by decide)]; exact s.s11,
    by rw [List.length_set]; exact s.len⟩
theorem slot_put {σ : St} {j : Nat} {v : Option V} (h : j < σ.length) : (σ.set j v)[j]? = some v := by
  rw [List.getElem?_set_self h]
theorem slot_keep {σ : St} {i j : Nat} {v : Option V} {x : Option (Option V)} (h : σ[i]? = x) (ne : j ≠ i) : (σ.set j v)[i]? = x := by
  rw [List.getElem?_set_ne ne]
  exact h
theorem slots (P : St → Prop) {n : St → Hp → Prop} {σ : St} {H : Hp} (h : P σ) (k : ∀ σ', P σ' → n σ' H) : n σ H := k σ h
local macro_rules | `(tactic| walk_at "sl") => `(tactic| with_reducible (first
  | assumption
  | exact MS.s2 (by assumption)
  | exact MS.s3 (by assumption)
  | exact MS.s4 (by assumption)
  | exact MS.s5 (by assumption)
  | exact MS.s6 (by assumption)
  | exact MS.s7 (by assumption)
  | exact MS.s8 (by assumption)
  | exact MS.s9 (by assumption)
  | exact MS.s10 (by assumption)))
local macro_rules | `(tactic| walk_at "ee") => `(tactic| first
  | ((with_reducible apply evV_var); walk_at "sl")
  | with_reducible exact evV_c
  | ((with_reducible apply evV_not) <;> walk_at "ee")
  | ((with_reducible apply evV_or) <;> walk_at "ee")
  | ((with_reducible apply evV_and) <;> walk_at "ee")
  | ((with_reducible apply evV_if) <;> walk_at "ee")
  | ((with_reducible apply evK_B) <;> walk_at "ee")
  | ((with_reducible apply evK_test) <;> walk_at "ee")
  | ((with_reducible apply evK_not) <;> walk_at "ee")
  | ((with_reducible apply evV_eqB) <;> walk_at "ee")
  | ((with_reducible apply evV_eqS) <;> walk_at "ee")
  | ((with_reducible apply evV_neS) <;> walk_at "ee"))
local macro_rules | `(tactic| walk_at "ebm") => `(tactic| (apply evV_is; (focus walk_at "ee"); (simp only [met, gap_refuse, gap_shift, gap_keep, fold_first, fold_second, fold_both, fold_refuse])))
section
variable {P : Program} {w : World} {K : PySem.W.Frag} {mg : Str → Option Value} {base : Heap}
theorem ok_law_rules (T : Txt w K mg) : FnOk P w K mg base CX0 1 T.f_law_rules.f T.f_law_rules.fd [] (sp_law_rules K) := by
  refine T.f_law_rules.F.ok sc_law_rules (fun vs H Q E h => ?_) (fun cdv A outer s H vs Q E hr h => ?_)
  · obtain ⟨rfl, _⟩ := h
    rfl
  obtain ⟨rfl, k⟩ := h
  refine ⟨(tSeq (tAsg (tLst (tCons (tC (.str "from universal and back")) (tCons (tC (.str "to universal and back")) (tCons (tC (.str "every reading")) (tCons (tC (.str "some reading")) (tCons (tC (.str "there and back")) tNil)))))) (gName 0)) (tSeq (tAsg (tOp rCat (tVar 0) (tLst (tCons (tC (.str "sum of durations")) (tCons (tC (.str "elapsed time")) (tCons (tC (.str "same clock")) (tCons (tC (.str "later")) (tCons (tC (.str "sums told")) (tCons (tC (.str "difference recovers")) tNil)))))))) (gName 0)) (tSeq (tAsg (tOp rCat (tVar 0) (tLst (tCons (tC (.str "order by difference")) (tCons (tC (.str "equal means one instant")) (tCons (tC (.str "one instant means equal")) (tCons (tC (.str "one instant, one time")) tNil)))))) (gName 0)) (tRet (tOp rCat (tVar 0) (tLst (tCons (tC (.str "order of instants")) (tCons (tC (.str "order kept")) (tCons (tC (.str "equal sums")) tNil))))))))),
    PSs.nox (pss_cons (ps_set (i := 0) sc_law_rules.nd rfl (Or.inl rfl) (pe_lst (pa_cons pe_str (pa_cons pe_str (pa_cons pe_str (pa_cons pe_str (pa_cons pe_str pa_nil))))))) (pss_cons (ps_set (i := 0) sc_law_rules.nd rfl (Or.inl rfl) (pe_op op_cat (pv 0) (pe_lst (pa_cons pe_str (pa_cons pe_str (pa_cons pe_str (pa_cons pe_str (pa_cons pe_str (pa_cons pe_str pa_nil))))))))) (pss_cons (ps_set (i := 0) sc_law_rules.nd rfl (Or.inl rfl) (pe_op op_cat (pv 0) (pe_lst (pa_cons pe_str (pa_cons pe_str (pa_cons pe_str (pa_cons pe_str pa_nil))))))) (pss_one (ps_ret (pe_op op_cat (pv 0) (pe_lst (pa_cons pe_str (pa_cons pe_str (pa_cons pe_str pa_nil)))))))))), ?_⟩
  walk_at "gg"
  refine g_newL (by simp) fun l1 H1 n1 e1 h1 => ?_
  walk_at "gg"
  refine g_newL (by simp) fun l2 H2 n2 e2 h2 => ?_
  refine g_cat (e2 _ _ h1) h2 (by simp) fun l3 H3 n3 e3 h3 => ?_
  walk_at "gg"
  refine g_newL (by simp) fun l4 H4 n4 e4 h4 => ?_
  refine g_cat (e4 _ _ h3) h4 (by simp) fun l5 H5 n5 e5 h5 => ?_
  walk_at "gg"
  refine g_newL (by simp) fun l6 H6 n6 e6 h6 => ?_
  refine g_cat (e6 _ _ h5) h6 (by simp) fun l7 H7 n7 e7 h7 => ?_
  have e06 := (((e1.trans e2).trans e3).trans (e4.trans e5)).trans e6
  exact k l7 H7 (Evl.fresh_back e06 n7) (e06.trans e7) h7
theorem ok_law_shape (T : Txt w K mg) : FnOk P w K mg base CX0 1 T.f_law_shape.f T.f_law_shape.fd ["rule"] (sp_law_shape K) := by
  refine T.f_law_shape.F.ok sc_law_shape (fun vs H Q E h => ?_) (fun cdv A outer s H vs Q E hr h => ?_)
  · obtain ⟨r, rfl, _⟩ := h
    rfl
  obtain ⟨r, rfl, k⟩ := h
  refine ⟨(tSeq (tIfS (tTest (tOp (rIn K false) (tVar 0) (tLst (tCons (tC (.str "every reading")) (tCons (tC (.str "some reading")) tNil))))) (tRet (tTup (tCons (tC (.str "reading")) tNil))) tNext) (tSeq (tIfS (tTest (tOp (rIn K false) (tVar 0) (tLst (tCons (tC (.str "to universal and back")) (tCons (tC (.str "same clock")) tNil))))) (tRet (tTup (tCons (tC (.str "time")) tNil))) tNext) (tSeq (tIfS (tTest (tOp (rIn K false) (tVar 0) (tLst (tCons (tC (.str "there and back")) (tCons (tC (.str "elapsed time")) (tCons (tC (.str "later")) (tCons (tC (.str "sums told")) tNil))))))) (tRet (tTup (tCons (tC (.str "time")) (tCons (tC (.str "duration")) tNil)))) tNext) (tSeq (tIfS (tTest (tOp (rIn K false) (tVar 0) (tLst (tCons (tC (.str "order kept")) (tCons (tC (.str "equal sums")) tNil))))) (tRet (tTup (tCons (tC (.str "time")) (tCons (tC (.str "time")) (tCons (tC (.str "duration")) tNil))))) tNext) (tRet (tDGet2 (tDisp [((tC (.str "from universal and back")), (tTup (tCons (tC (.str "instant")) tNil))), ((tC (.str "sum of durations")), (tTup (tCons (tC (.str "time")) (tCons (tC (.str "duration")) (tCons (tC (.str "duration")) tNil)))))]) (tVar 0) (tTup (tCons (tC (.str "time")) (tCons (tC (.str "time")) tNil))))))))),
    PSs.nox (pss_cons (ps_if (pt_cmpR op_in_seq (pv 0) (pe_lst (pa_cons pe_str (pa_cons pe_str pa_nil))) (by rfl)) (pss_one (ps_ret (pe_tup (pa_cons pe_str pa_nil)))) pss_nil) (pss_cons (ps_if (pt_cmpR op_in_seq (pv 0) (pe_lst (pa_cons pe_str (pa_cons pe_str pa_nil))) (by rfl)) (pss_one (ps_ret (pe_tup (pa_cons pe_str pa_nil)))) pss_nil) (pss_cons (ps_if (pt_cmpR op_in_seq (pv 0) (pe_lst (pa_cons pe_str (pa_cons pe_str (pa_cons pe_str (pa_cons pe_str pa_nil))))) (by rfl)) (pss_one (ps_ret (pe_tup (pa_cons pe_str (pa_cons pe_str pa_nil))))) pss_nil) (pss_cons (ps_if (pt_cmpR op_in_seq (pv 0) (pe_lst (pa_cons pe_str (pa_cons pe_str pa_nil))) (by rfl)) (pss_one (ps_ret (pe_tup (pa_cons pe_str (pa_cons pe_str (pa_cons pe_str pa_nil)))))) pss_nil) (pss_one (ps_ret (pe_dget2 (hu_of hr) (pe_disp (pps_cons pe_str (pe_tup (pa_cons pe_str pa_nil)) (pps_cons pe_str (pe_tup (pa_cons pe_str (pa_cons pe_str (pa_cons pe_str pa_nil)))) pps_nil)) (by rfl) (by rfl) (fun z => by cases z) (by decide)) (pv 0) (pe_tup (pa_cons pe_str (pa_cons pe_str pa_nil))) ⟨by rfl, by rfl, by rfl, by rfl⟩))))))), ?_⟩
  walk_at "gg"
  refine g_newL (by simp) fun l1 H1 n1 e1 h1 => ?_
  refine g_inL (SqL.of h1) rfl rfl ?_
  walk_at "gg"
  have fin : ∀ (ws : List Str) H2, Ex H H2 → shapeR r = ws → ws.length ≤ 1000 → NewT (ws.map V.str) H2 Q := by
    intro ws H2 e2 e len
    refine g_newT (by rw [List.length_map]; omega) fun p H3 n3 e3 h3 => ?_
    rw [← e] at h3
    exact k p H3 (e2.trans e3) (SqT.of h3)
  refine if_b (fun c1 => ?_) (fun c1 => ?_)
  · walk_at "gg"
    exact fin ["reading"] _ e1 (by cases r <;> first | rfl | exact absurd c1 (by decide +kernel)) (by decide)
  walk_at "gg"
  refine g_newL (by simp) fun l2 H2 n2 e2 h2 => ?_
  refine g_inL (SqL.of h2) rfl rfl ?_
  walk_at "gg"
  refine if_b (fun c2 => ?_) (fun c2 => ?_)
  · walk_at "gg"
    exact fin ["time"] _ (e1.trans e2) (by cases r <;> first | rfl | exact absurd c1 (by decide +kernel) | exact absurd c2 (by decide +kernel)) (by decide)
  walk_at "gg"
  refine g_newL (by simp) fun l3 H3 n3 e3 h3 => ?_
  refine g_inL (SqL.of h3) rfl rfl ?_
  walk_at "gg"
  refine if_b (fun c3 => ?_) (fun c3 => ?_)
  · walk_at "gg"
    exact fin ["time", "duration"] _ ((e1.trans e2).trans e3) (by cases r <;> first | rfl | exact absurd c1 (by decide +kernel) | exact absurd c2 (by decide +kernel) | exact absurd c3 (by decide +kernel)) (by decide)
  walk_at "gg"
  refine g_newL (by simp) fun l4 H4 n4 e4 h4 => ?_
  refine g_inL (SqL.of h4) rfl rfl ?_
  walk_at "gg"
  refine if_b (fun c4 => ?_) (fun c4 => ?_)
  · walk_at "gg"
    exact fin ["time", "time", "duration"] _ ((e1.trans e2).trans (e3.trans e4)) (by cases r <;> first | rfl | exact absurd c1 (by decide +kernel) | exact absurd c2 (by decide +kernel) | exact absurd c3 (by decide +kernel) | exact absurd c4 (by decide +kernel)) (by decide)
  walk_at "gg"
  refine g_disp fun d H5 n5 e5 h5 => ?_
  walk_at "gg"
  refine g_newT (by simp) fun t6 H6 n6 e6 h6 => ?_
  walk_at "gg"
  refine g_newT (by simp) fun t7 H7 n7 e7 h7 => ?_
  walk_at "gg"
  have d7 := e7 _ _ (e6 _ _ h5)
  refine g_dispEnd [((Sum.inr "from universal and back" : Key), V.ref t6), (Sum.inr "sum of durations", V.ref t7)] (H0 := H4) n5 ((e5.trans e6).trans e7) d7 rfl (by simp) fun H8 e8 f8 h8 => ?_
  refine g_isD h8 ?_
  have h68 : H8 t6 = some (.tup [.str "instant"]) := f8 _ _ (ne_of (e7 _ _ h6) d7 (fun z => nomatch z)) (e7 _ _ h6)
  have h78 : H8 t7 = some (.tup [.str "time", .str "duration", .str "duration"]) := f8 _ _ (ne_of h7 d7 (fun z => nomatch z)) h7
  walk_at "gg"
  refine g_newT (by simp) fun t9 H9 n9 e9 h9 => ?_
  refine g_dgetR (e9 _ _ h8) ?_
  have nbr : ¬ (Sum.inr ("from universal and back" : Str) : Key) = Sum.inr ("sum of durations" : Str) := by decide +kernel
  have e09 : Ex H H9 := ((e1.trans e2).trans (e3.trans e4)).trans (e8.trans e9)
  rw [merge2 nbr, val2]
  by_cases a1 : ("from universal and back" : Str) = ruleS r
  · rw [if_pos a1]
    have er : r = .fromU := ruleS_inj a1.symm
    subst er
    exact k t6 H9 e09 (SqT.of (e9 _ _ h68))
  · rw [if_neg a1]
    by_cases a2 : ("sum of durations" : Str) = ruleS r
    · rw [if_pos a2]
      have er : r = .sumD := ruleS_inj a2.symm
      subst er
      exact k t7 H9 e09 (SqT.of (e9 _ _ h78))
    · rw [if_neg a2]
      refine k t9 H9 e09 ?_
      have er : shapeR r = (["time", "time"] : List Str) := by cases r <;> first | rfl | exact absurd c1 (by decide +kernel) | exact absurd c2 (by decide +kernel) | exact absurd c3 (by decide +kernel) | exact absurd c4 (by decide +kernel) | exact absurd rfl a1 | exact absurd rfl a2
      rw [er]
      exact SqT.of h9
end
local macro_rules | `(tactic| walk_at "m") => `(tactic| first
  | with_reducible refine g_m1 ?_
  | with_reducible refine g_isS ?_
  | with_reducible refine g_lcStr ?_
  | with_reducible refine g_join ?_
  | with_reducible refine g_js ?_
  | with_reducible refine g_jsN ?_
  | with_reducible refine g_fmt ?_
  | with_reducible refine g_callLam ?_
  | with_reducible refine g_revT ?_)

/-! ### results stay near -/
section
variable {w : Way} {z : Zone} (h : OkZ z)
include h
theorem at_near {T : Int} {t : Tm} (e : at_ w z T = some t) : T - 15 ≤ t.1 ∧ t.1 ≤ T + 15 := by
  have q := (at_valid h e).2
  have := h.offs T
  omega
theorem read_near {rd : Int} {t : Tm} (e : read_ w z rd = some t) : rd - 30 ≤ t.1 ∧ t.1 ≤ rd + 30 := by
  unfold read_ at e
  have b : -15 ≤ before z rd ∧ before z rd ≤ 15 := h.offs _
  split at e
  next c =>
    cases hg : w.gap with
    | shift =>
      rw [hg] at e
      have := at_near h e
      omega
    | refuse => rw [hg] at e; cases e
    | keep =>
      rw [hg] at e
      cases e
      show rd - 30 ≤ rd ∧ rd ≤ rd + 30
      omega
  next c =>
    split at e
    · cases e
    · cases e
      show rd - 30 ≤ rd ∧ rd ≤ rd + 30
      omega
theorem add_near {t u : Tm} {d : Int} (q : IsTm w z t) (e : addT w z (some t) d = some u) : t.1 + d - 50 ≤ u.1 ∧ u.1 ≤ t.1 + d + 50 := by
  unfold addT at e
  simp only at e
  split at e
  · have := read_near h e
    omega
  · have := at_near h e
    have := inst_near h q
    omega
end
/-! ### promises -/
/-- the argument of a rule of one argument, and whether the rule holds for it -/
def OneOk (K : PySem.W.Frag) (H : Hp) (w : Way) (z : Zone) (xv : V) (b : Bool) : Rule → Prop
  | .fromU => ∃ T : Int, xv = .int T ∧ Sn T ∧ b = fFrom w z T
  | .every => ∃ T : Int, xv = .int T ∧ Sn T ∧ b = fEvery w z T
  | .someR => ∃ T : Int, xv = .int T ∧ Sn T ∧ b = fSome w z T
  | .toU => ∃ t : Tm, PV K H xv t ∧ IsTm w z t ∧ -1000000 ≤ t.1 ∧ t.1 ≤ 1000000 ∧ b = fTo w z t
  | .same => ∃ t : Tm, PV K H xv t ∧ IsTm w z t ∧ -1000000 ≤ t.1 ∧ t.1 ≤ 1000000 ∧ b = fSame w z t
  | _ => False
def sp_law_one (K : PySem.W.Frag) : Sp := fun vs H Q _ => ∃ (wv zv xv : V) (w : Way) (z : Zone) (r : Rule) (b : Bool), vs = [wv, zv, .str (ruleS r), xv] ∧ WayV K H wv w ∧ ZV K H zv z ∧ OkZ z ∧ OneOk K H w z xv b r ∧ ∀ H', Ex H H' → Q (.bl b) H'
def isMoved (r : Rule) : Prop := r = .there ∨ r = .sumD ∨ r = .elapsed ∨ r = .later ∨ r = .told
def isTwo (r : Rule) : Prop := r = .diff ∨ r = .ordDiff ∨ r = .eqOne ∨ r = .oneEq ∨ r = .oneOne ∨ r = .ordInst ∨ r = .kept ∨ r = .eqSums
def sp_law_moved (K : PySem.W.Frag) : Sp := fun vs H Q _ => ∃ (wv zv tv : V) (w : Way) (z : Zone) (r : Rule) (t : Tm) (d e : Int), vs = [wv, zv, .str (ruleS r), tv, .int d, .int e] ∧ isMoved r ∧ WayV K H wv w ∧ ZV K H zv z ∧ OkZ z ∧
  PV K H tv t ∧ IsTm w z t ∧ -1000000 ≤ t.1 ∧ t.1 ≤ 1000000 ∧ -10000 ≤ d ∧ d ≤ 10000 ∧ -10000 ≤ e ∧ e ≤ 10000 ∧ ∀ H', Ex H H' → Q (.bl (fMoved w z r t d e)) H'
def sp_law_two (K : PySem.W.Frag) : Sp := fun vs H Q _ => ∃ (wv zv tv uv dv : V) (w : Way) (z : Zone) (r : Rule) (t u : Tm) (d : Int), vs = [wv, zv, .str (ruleS r), tv, uv, dv] ∧ isTwo r ∧ WayV K H wv w ∧ ZV K H zv z ∧ OkZ z ∧
  PV K H tv t ∧ IsTm w z t ∧ -1000000 ≤ t.1 ∧ t.1 ≤ 1000000 ∧ PV K H uv u ∧ IsTm w z u ∧ -1000000 ≤ u.1 ∧ u.1 ≤ 1000000 ∧ (r = .kept ∨ r = .eqSums → dv = .int d ∧ -10000 ≤ d ∧ d ≤ 10000) ∧ ∀ H', Ex H H' → Q (.bl (fTwo w z r t u d)) H'
theorem ord_some {w : Way} {z : Zone} {t u : Tm} : ordV (order w z (some t) (some u)) = .int (cmp (key w z t) (key w z u)) := rfl
theorem g_eqO {H : Hp} {Q : VK} {o : Option Int} {j : Int} (h : Q (.bl (decide (o = some j))) H) : rEq (ordV o) (.int j) H Q := by
  cases o with
  | none => exact ⟨rfl, h⟩
  | some i =>
    refine g_eqI ?_
    rw [show decide (some i = some j) = decide (i = j) from decide_eq_decide.mpr ⟨fun e => Option.some.inj e, fun e => by rw [e]⟩] at h
    exact h
section
variable {P : Program} {w : World} {K : PySem.W.Frag} {mg : Str → Option Value} {base : Heap}
end
local macro_rules | `(tactic| walk_at "m") => `(tactic| first
  | with_reducible refine g_m1 ?_
  | with_reducible refine g_isS ?_
  | with_reducible refine g_lcStr ?_
  | with_reducible refine g_join ?_
  | with_reducible refine g_js ?_
  | with_reducible refine g_jsN ?_
  | with_reducible refine g_fmt ?_
  | with_reducible refine g_callLam ?_
  | with_reducible refine g_revT ?_)

/-- an argument of a rule: a number or a time -/
inductive It where
  | i (n : Int)
  | t (t : Tm)
def ItV (K : PySem.W.Frag) (H : Hp) (v : V) : It → Prop
  | .i n => v = .int n
  | .t t => PV K H v t
theorem ItV.tr {K : PySem.W.Frag} {H H' : Hp} {v : V} {a : It} (e : TrT K H H') (h : ItV K H v a) : ItV K H' v a := by
  cases a with
  | i n => exact h
  | t t => exact PV.tr e h
def ItOk (w : Way) (z : Zone) (word : Str) (a : It) : Prop :=
  (word = "time" ∧ ∃ t, a = .t t ∧ IsTm w z t ∧ -3000 ≤ t.1 ∧ t.1 ≤ 3000) ∨ (word = "duration" ∧ ∃ n, a = .i n ∧ -400 ≤ n ∧ n ≤ 400) ∨
  (word ≠ "time" ∧ word ≠ "duration" ∧ ∃ n, a = .i n ∧ -2000 ≤ n ∧ n ≤ 2000)
theorem ItOk.tm {w : Way} {z : Zone} {a : It} (h : ItOk w z "time" a) : ∃ t, a = .t t ∧ IsTm w z t ∧ -3000 ≤ t.1 ∧ t.1 ≤ 3000 := by
  rcases h with ⟨_, h⟩ | ⟨e, _⟩ | ⟨e, _⟩
  · exact h
  · exact absurd e (by decide +kernel)
  · exact absurd rfl e
theorem ItOk.du {w : Way} {z : Zone} {a : It} (h : ItOk w z "duration" a) : ∃ n, a = .i n ∧ -400 ≤ n ∧ n ≤ 400 := by
  rcases h with ⟨e, _⟩ | ⟨_, h⟩ | ⟨_, e, _⟩
  · exact absurd e (by decide +kernel)
  · exact h
  · exact absurd rfl e
theorem ItOk.nu {w : Way} {z : Zone} {a : It} {s : Str} (c : s ≠ "time") (h : ItOk w z s a) : ∃ n, a = .i n ∧ -2000 ≤ n ∧ n ≤ 2000 := by
  rcases h with ⟨e, _⟩ | ⟨_, n, e, b1, b2⟩ | ⟨_, _, h⟩
  · exact absurd e c
  · exact ⟨n, e, by omega, by omega⟩
  · exact h
theorem pd_self : ∀ ws : List Str, Paired (fun x d => x = V.str d) (ws.map V.str) ws
  | [] => .nil
  | w :: ws => .cons rfl (pd_self ws)
theorem pd_len {α β : Type} {F : α → β → Prop} : ∀ {xs : List α} {ys : List β}, Paired F xs ys → xs.length = ys.length
  | _, _, .nil => rfl
  | _, _, .cons _ t => by rw [List.length_cons, List.length_cons, pd_len t]
theorem shape_few (r : Rule) : (shapeR r).length ≤ 3 := by cases r <;> decide
/-- whether a rule holds for arguments -/
def fitsI (w : Way) (z : Zone) (r : Rule) : List It → Bool
  | [.i n] => (match r with | .fromU => fFrom w z n | .every => fEvery w z n | _ => fSome w z n)
  | [.t t] => (match r with | .toU => fTo w z t | _ => fSame w z t)
  | [.t t, .i d] => fMoved w z r t d d
  | [.t t, .i d, .i e] => fMoved w z r t d e
  | [.t t, .t u] => fTwo w z r t u 0
  | [.t t, .t u, .i d] => fTwo w z r t u d
  | _ => false
theorem args_inv {w : Way} {z : Zone} {r : Rule} {its : List It} (h : Paired (ItOk w z) (shapeR r) its) :
    ((r = .fromU ∨ r = .every ∨ r = .someR) ∧ (∃ s, shapeR r = [s]) ∧ ∃ n, its = [.i n] ∧ -2000 ≤ n ∧ n ≤ 2000) ∨
    ((r = .toU ∨ r = .same) ∧ (∃ s, shapeR r = [s]) ∧ ∃ t, its = [.t t] ∧ IsTm w z t ∧ -3000 ≤ t.1 ∧ t.1 ≤ 3000) ∨
    (isMoved r ∧ shapeR r = (["time", "duration"] : List Str) ∧ ∃ t d, its = [.t t, .i d] ∧ IsTm w z t ∧ -3000 ≤ t.1 ∧ t.1 ≤ 3000 ∧ -400 ≤ d ∧ d ≤ 400) ∨
    (isMoved r ∧ shapeR r = (["time", "duration", "duration"] : List Str) ∧ ∃ t d e, its = [.t t, .i d, .i e] ∧ IsTm w z t ∧ -3000 ≤ t.1 ∧ t.1 ≤ 3000 ∧ -400 ≤ d ∧ d ≤ 400 ∧ -400 ≤ e ∧ e ≤ 400) ∨
    ((isTwo r ∧ r ≠ .kept ∧ r ≠ .eqSums) ∧ shapeR r = (["time", "time"] : List Str) ∧ ∃ t u, its = [.t t, .t u] ∧ IsTm w z t ∧ -3000 ≤ t.1 ∧ t.1 ≤ 3000 ∧ IsTm w z u ∧ -3000 ≤ u.1 ∧ u.1 ≤ 3000) ∨
    (isTwo r ∧ shapeR r = (["time", "time", "duration"] : List Str) ∧ ∃ t u d, its = [.t t, .t u, .i d] ∧ IsTm w z t ∧ -3000 ≤ t.1 ∧ t.1 ≤ 3000 ∧ IsTm w z u ∧ -3000 ≤ u.1 ∧ u.1 ≤ 3000 ∧ -400 ≤ d ∧ d ≤ 400) := by
  have i1 : ∀ s : Str, s ≠ "time" → Paired (ItOk w z) [s] its → ∃ n, its = [.i n] ∧ -2000 ≤ n ∧ n ≤ 2000 := by
    rintro s c (_ | ⟨a, _ | _⟩)
    obtain ⟨n, rfl, b⟩ := a.nu c
    exact ⟨n, rfl, b⟩
  have i2 : Paired (ItOk w z) (["time"] : List Str) its → ∃ t, its = [.t t] ∧ IsTm w z t ∧ -3000 ≤ t.1 ∧ t.1 ≤ 3000 := by
    rintro (_ | ⟨a, _ | _⟩)
    obtain ⟨t, rfl, b⟩ := a.tm
    exact ⟨t, rfl, b⟩
  have i3 : Paired (ItOk w z) (["time", "duration"] : List Str) its → ∃ t d, its = [.t t, .i d] ∧ IsTm w z t ∧ -3000 ≤ t.1 ∧ t.1 ≤ 3000 ∧ -400 ≤ d ∧ d ≤ 400 := by
    rintro (_ | ⟨a, _ | ⟨b, _ | _⟩⟩)
    obtain ⟨t, rfl, t1, t2, t3⟩ := a.tm
    obtain ⟨d, rfl, d1, d2⟩ := b.du
    exact ⟨t, d, rfl, t1, t2, t3, d1, d2⟩
  have i4 : Paired (ItOk w z) (["time", "duration", "duration"] : List Str) its → ∃ t d e, its = [.t t, .i d, .i e] ∧ IsTm w z t ∧ -3000 ≤ t.1 ∧ t.1 ≤ 3000 ∧ -400 ≤ d ∧ d ≤ 400 ∧ -400 ≤ e ∧ e ≤ 400 := by
    rintro (_ | ⟨a, _ | ⟨b, _ | ⟨c, _ | _⟩⟩⟩)
    obtain ⟨t, rfl, t1, t2, t3⟩ := a.tm
    obtain ⟨d, rfl, d1, d2⟩ := b.du
    obtain ⟨e, rfl, e1, e2⟩ := c.du
    exact ⟨t, d, e, rfl, t1, t2, t3, d1, d2, e1, e2⟩
  have i5 : Paired (ItOk w z) (["time", "time"] : List Str) its → ∃ t u, its = [.t t, .t u] ∧ IsTm w z t ∧ -3000 ≤ t.1 ∧ t.1 ≤ 3000 ∧ IsTm w z u ∧ -3000 ≤ u.1 ∧ u.1 ≤ 3000 := by
    rintro (_ | ⟨a, _ | ⟨b, _ | _⟩⟩)
    obtain ⟨t, rfl, t1, t2, t3⟩ := a.tm
    obtain ⟨u, rfl, u1, u2, u3⟩ := b.tm
    exact ⟨t, u, rfl, t1, t2, t3, u1, u2, u3⟩
  have i6 : Paired (ItOk w z) (["time", "time", "duration"] : List Str) its → ∃ t u d, its = [.t t, .t u, .i d] ∧ IsTm w z t ∧ -3000 ≤ t.1 ∧ t.1 ≤ 3000 ∧ IsTm w z u ∧ -3000 ≤ u.1 ∧ u.1 ≤ 3000 ∧ -400 ≤ d ∧ d ≤ 400 := by
    rintro (_ | ⟨a, _ | ⟨b, _ | ⟨c, _ | _⟩⟩⟩)
    obtain ⟨t, rfl, t1, t2, t3⟩ := a.tm
    obtain ⟨u, rfl, u1, u2, u3⟩ := b.tm
    obtain ⟨d, rfl, d1, d2⟩ := c.du
    exact ⟨t, u, d, rfl, t1, t2, t3, u1, u2, u3, d1, d2⟩
  unfold isMoved isTwo
  cases r with
  | fromU => exact .inl ⟨by simp, ⟨_, rfl⟩, i1 _ (by decide +kernel) h⟩
  | every => exact .inl ⟨by simp, ⟨_, rfl⟩, i1 _ (by decide +kernel) h⟩
  | someR => exact .inl ⟨by simp, ⟨_, rfl⟩, i1 _ (by decide +kernel) h⟩
  | toU => exact .inr (.inl ⟨by simp, ⟨_, rfl⟩, i2 h⟩)
  | same => exact .inr (.inl ⟨by simp, ⟨_, rfl⟩, i2 h⟩)
  | sumD => exact .inr (.inr (.inr (.inl ⟨by simp, rfl, i4 h⟩)))
  | there => exact .inr (.inr (.inl ⟨by simp, rfl, i3 h⟩))
  | elapsed => exact .inr (.inr (.inl ⟨by simp, rfl, i3 h⟩))
  | later => exact .inr (.inr (.inl ⟨by simp, rfl, i3 h⟩))
  | told => exact .inr (.inr (.inl ⟨by simp, rfl, i3 h⟩))
  | kept => exact .inr (.inr (.inr (.inr (.inr ⟨by simp, rfl, i6 h⟩))))
  | eqSums => exact .inr (.inr (.inr (.inr (.inr ⟨by simp, rfl, i6 h⟩))))
  | diff => exact .inr (.inr (.inr (.inr (.inl ⟨by simp, rfl, i5 h⟩))))
  | ordDiff => exact .inr (.inr (.inr (.inr (.inl ⟨by simp, rfl, i5 h⟩))))
  | eqOne => exact .inr (.inr (.inr (.inr (.inl ⟨by simp, rfl, i5 h⟩))))
  | oneEq => exact .inr (.inr (.inr (.inr (.inl ⟨by simp, rfl, i5 h⟩))))
  | oneOne => exact .inr (.inr (.inr (.inr (.inl ⟨by simp, rfl, i5 h⟩))))
  | ordInst => exact .inr (.inr (.inr (.inr (.inl ⟨by simp, rfl, i5 h⟩))))
/-- a rule that holds holds for all arguments -/
theorem fits_all {w : Way} {z : Zone} {r : Rule} {its : List It} (hz : OkZ z) (H : Holds w z r) (p : Paired (ItOk w z) (shapeR r) its) : fitsI w z r its = true := by
  rcases args_inv p with ⟨c, _, n, rfl, _⟩ | ⟨c, _, t, rfl, q, _⟩ | ⟨c, _, t, d, rfl, q, _⟩ | ⟨c, _, t, d, e, rfl, q, _⟩ | ⟨⟨c, _⟩, _, t, u, rfl, q, _, _, q', _⟩ | ⟨c, _, t, u, d, rfl, q, _, _, q', _⟩
  · rcases c with rfl | rfl | rfl
    · exact all_T hz n H
    · exact all_rd hz (.inl rfl) n H
    · exact all_rd hz (.inr rfl) n H
  · rcases c with rfl | rfl
    · exact all_t hz (.inl rfl) q H
    · exact all_t hz (.inr rfl) q H
  · exact all_moved hz c q d d H
  · exact all_moved hz c q d e H
  · exact all_two hz c q q' 0 H
  · exact all_two hz c q q' d H
/-! ### promises -/
def sp_law_fits (K : PySem.W.Frag) : Sp := fun vs H Q _ => ∃ (wv zv : V) (w : Way) (z : Zone) (r : Rule) (p : Addr) (xs : List V) (its : List It), vs = [wv, zv, .str (ruleS r), .ref p] ∧ WayV K H wv w ∧ ZV K H zv z ∧ OkZ z ∧
  SqT K H p xs ∧ Paired (ItV K H) xs its ∧ Paired (ItOk w z) (shapeR r) its ∧ ∀ H', Ex H H' → Q (.bl (fitsI w z r its)) H'
def sp_law_arguments (K : PySem.W.Frag) : Sp := fun vs H Q _ => ∃ (ρ : Rw) (wv zv : V) (w : Way) (z : Zone) (r : Rule), vs = [.ref ρ.1, wv, zv, .str (ruleS r)] ∧ Row K H ρ ∧ WayV K H wv w ∧ ZV K H zv z ∧ OkZ z ∧
  ∀ p xs its H', Fr ρ.1 H H' → Row K H' ρ → SqT K H' p xs → Paired (ItV K H') xs its → Paired (ItOk w z) (shapeR r) its → Q (.ref p) H'
section
variable {P : Program} {w : World} {K : PySem.W.Frag} {mg : Str → Option Value} {base : Heap}
theorem ok_law_arguments (T : Txt w K mg) : FnOk P w K mg base CX0 5 T.f_law_arguments.f T.f_law_arguments.fd ["row", "way", "zone", "rule"] (sp_law_arguments K) := by
  refine T.f_law_arguments.F.ok sc_law_arguments (fun vs H Q E h => ?_) (fun cdv A outer s H vs Q E hr h => ?_)
  · obtain ⟨ρ, wv, zv, w, z, r, rfl, _⟩ := h
    rfl
  obtain ⟨ρ, wv, zv, w, z, r, rfl, hR, hwv, hv, hz, k⟩ := h
  refine ⟨(tSeq (tPar 4 5 (tCons (tLst tNil) (tCons (tCall (sp_law_time K) [] E0 (tCons (tVar 0) (tCons (tVar 1) (tCons (tVar 2) tNil)))) tNil))) (tSeq (tFor (iTup K (tCall (sp_law_shape K) [] E0 (tCons (tVar 3) tNil))) (gName 6) (tIfS (tTest (tOp rEq (tVar 6) (tC (.str "time")))) (tDrop (tBM K "list" rAppend (tVar 4) (tCons (tCall (sp_law_pick K) [] E0 (tCons (tVar 0) (tCons (tLst (tCons (tVar 5) (tCons (tCall (sp_law_time K) [] E0 (tCons (tVar 0) (tCons (tVar 1) (tCons (tVar 2) tNil)))) tNil))) tNil))) tNil))) (tDrop (tBM K "list" rAppend (tVar 4) (tCons (tIf (tTest (tOp rEq (tVar 6) (tC (.str "duration")))) (tCall (sp_law_hours K) [] E0 (tCons (tVar 0) tNil)) (tCall (sp_law_spot K) [] E0 (tCons (tVar 0) (tCons (tVar 2) tNil)))) tNil))))) (tRet (tCB (r_tupleOf K) (tCons (tVar 4) tNil))))),
    PSs.nox (pss_cons (ps_par (by rfl) sc_law_arguments.nd rfl rfl (by decide) rfl rfl (pa_cons (pe_lst pa_nil) (pa_cons (pe_call (ok_law_time T) (hr.mono (by decide)) (by rfl) T.f_law_time.g T.f_law_time.F.kp T.f_law_time.b .nil pass0 (pa_cons (pv 0) (pa_cons (pv 1) (pa_cons (pv 2) pa_nil)))) pa_nil)) (by rfl)) (pss_cons (ps_for PassesOwn.never rfl (pi_tup (pe_call (ok_law_shape T) (hr.mono (by decide)) (by rfl) T.f_law_shape.g T.f_law_shape.F.kp T.f_law_shape.b .nil pass0 (pa_cons (pv 3) pa_nil))) (pg_name (i := 6) sc_law_arguments.nd rfl (Or.inl rfl)) (pss_one (ps_if (pt_cmpR op_eq (pv 6) pe_str (nomark _)) (pss_one (ps_expr (pe_bm PySem.F.plainAttrs_list PySem.F.slot_list_append PySem.F.type_list_append mt_append (pv 4) (pa_cons (pe_call (ok_law_pick T) (hr.mono (by decide)) (by rfl) T.f_law_pick.g T.f_law_pick.F.kp T.f_law_pick.b .nil pass0 (pa_cons (pv 0) (pa_cons (pe_lst (pa_cons (pv 5) (pa_cons (pe_call (ok_law_time T) (hr.mono (by decide)) (by rfl) T.f_law_time.g T.f_law_time.F.kp T.f_law_time.b .nil pass0 (pa_cons (pv 0) (pa_cons (pv 1) (pa_cons (pv 2) pa_nil)))) pa_nil))) pa_nil))) pa_nil)))) (pss_one (ps_expr (pe_bm PySem.F.plainAttrs_list PySem.F.slot_list_append PySem.F.type_list_append mt_append (pv 4) (pa_cons (pe_ifExp (pt_cmpR op_eq (pv 6) pe_str (nomark _)) (pe_call (ok_law_hours T) (hr.mono (by decide)) (by rfl) T.f_law_hours.g T.f_law_hours.F.kp T.f_law_hours.b .nil pass0 (pa_cons (pv 0) pa_nil)) (pe_call (ok_law_spot T) (hr.mono (by decide)) (by rfl) T.f_law_spot.g T.f_law_spot.F.kp T.f_law_spot.b .nil pass0 (pa_cons (pv 0) (pa_cons (pv 2) pa_nil)))) pa_nil))))))) (pss_one (ps_ret (pe_callTy call_tuple_of (by rfl) T.z_tuple (by decide +kernel) (pa_cons (pv 4) pa_nil)))))), ?_⟩
  walk_at "gg"
  refine g_newL (by simp) fun D H1 n1 e1 h1 => ?_
  walk_at "gg"
  have ht1 : TrT K H H1 := TrT.of e1
  refine ⟨ρ, _, _, w, z, rfl, hR.ex e1, hwv.tr ht1, hv.tr ht1, hz, fun fv ft H2 f2 R2 pf qf bf1 bf2 => ?_⟩
  walk_at "gg"
  refine ⟨r, rfl, fun p H3 e3 h3 => ?_⟩
  walk_at "gg"
  obtain ⟨_, rowl⟩ := hR.lst
  have nd : D ≠ ρ.1 := (ne_of_none rowl n1).symm
  have f03 : Fr ρ.1 H H3 := ((Fr.of e1).trans f2).trans (Fr.of e3)
  have R3 := R2.ex e3
  have hD3 : H3 D = some (.lst []) := e3 _ _ (f2 _ _ nd h1)
  refine g_forT h3 (pd_self (shapeR r)) (F := fun _ x d => x = V.str d) (fun l σ' H' => ∃ done its vs w0, shapeR r = done ++ l ∧ σ' = [some (.ref ρ.1), some wv, some zv, some (.str (ruleS r)), some (.ref D), some fv, w0] ∧
    Fr ρ.1 H H' ∧ Row K H' ρ ∧ H' D = some (.lst vs) ∧ Paired (ItV K H') vs its ∧ Paired (ItOk w z) done its ∧ PV K H' fv ft ∧ SqT K H' p ((shapeR r).map V.str)) ⟨[], [], [], _, rfl, rfl, f03, R3, hD3, .nil, .nil, pf.tr (TrT.of e3), h3⟩ ?_ ?_ ?_
  · rintro l σ' H' ⟨done, its, vs, w0, _, _, _, _, _, _, _, _, hp⟩
    exact ⟨hp, fun _ _ h => h⟩
  · rintro d l x σ' H4 ⟨done, its, vs, w0, sh, rfl, f4, R4, hD, pvs, po, pf4, hp⟩ rfl
    have few : vs.length ≤ 3 := by
      have q1 := shape_few r
      rw [sh, List.length_append] at q1
      rw [pd_len pvs, ← pd_len po]
      omega
    have put : ∀ (x : V) (it : It) (H6 : Hp), Fr ρ.1 H4 H6 → Row K H6 ρ → ItV K H6 x it → ItOk w z d it → ∀ Q' : VK,
        (∀ H7, (∃ done its vs w0, shapeR r = done ++ l ∧ [some (V.ref ρ.1), some wv, some zv, some (.str (ruleS r)), some (.ref D), some fv, some (V.str d)] = [some (.ref ρ.1), some wv, some zv, some (.str (ruleS r)), some (.ref D), some fv, w0] ∧
          Fr ρ.1 H H7 ∧ Row K H7 ρ ∧ H7 D = some (.lst vs) ∧ Paired (ItV K H7) vs its ∧ Paired (ItOk w z) done its ∧ PV K H7 fv ft ∧ SqT K H7 p ((shapeR r).map V.str)) → Q' .non H7) → rAppend (.ref D) [x] H6 Q' := by
      intro x it H6 f6 R6 vx ox Q' k'
      have hD6 := f6 _ _ nd hD
      refine g_app hD6 (by omega) fun H7 e7 => k' H7 ?_
      have R7 : Row K H7 ρ := by rw [e7]; exact Row.mut hR R6 (f4.trans f6) n1
      have f7 : Fr ρ.1 H H7 := by rw [e7]; exact Fr.mut (f4.trans f6) n1
      have t7 : TrT K H6 H7 := by rw [e7]; exact TrT.upd hD6
      have t47 : TrT K H4 H7 := (R4.tr f6).trans t7
      refine ⟨done ++ [d], its ++ [it], vs ++ [x], _, by rw [sh, List.append_assoc]; rfl, rfl, f7, R7, by rw [e7]; exact upd_same, pd_app (L2.Paired.mapP pvs fun _ _ q => q.tr t47) (.cons (vx.tr t7) .nil), pd_app po (.cons ox .nil), pf4.tr t47, t47 _ _ hp⟩
    have t4 := hR.tr f4
    walk_at "gg"
    refine if_d (fun c => ?_) (fun c => ?_)
    · walk_at "gg"
      refine g_tbmV rfl (SqL.of hD) ?_
      walk_at "gg"
      refine ⟨ρ, _, _, w, z, rfl, R4, hwv.tr t4, hv.tr t4, hz, fun v t H5 f5 R5 p5 q5 b1 b2 => ?_⟩
      walk_at "gg"
      refine g_newL (by simp) fun l6 H6 n6 e6 h6 => ?_
      walk_at "gg"
      obtain ⟨_, rl5⟩ := R5.lst
      refine ⟨ρ, _, _, rfl, R5.ex e6, h6, (ne_of_none rl5 n6).symm, by simp, by simp, fun x H7 m7 f7 R7 => ?_⟩
      have t57 : TrT K H5 H7 := (TrT.of e6).trans ((R5.ex e6).tr f7)
      obtain ⟨tx, vx, ox, x1, x2⟩ : ∃ tx, PV K H7 x tx ∧ IsTm w z tx ∧ -3000 ≤ tx.1 ∧ tx.1 ≤ 3000 := by
        simp only [List.mem_cons, List.not_mem_nil, or_false] at m7
        rcases m7 with rfl | rfl
        · exact ⟨ft, pf4.tr ((R4.tr f5).trans t57), qf, bf1, bf2⟩
        · exact ⟨t, p5.tr t57, q5, b1, b2⟩
      walk_at "gg"
      refine put x (.t tx) H7 ((f5.trans (Fr.of e6)).trans f7) R7 vx (.inl ⟨c, tx, rfl, ox, x1, x2⟩) _ fun H8 q => ?_
      exact q
    · walk_at "gg"
      refine g_tbmV rfl (SqL.of hD) ?_
      walk_at "gg"
      refine if_d (fun c2 => ?_) (fun c2 => ?_)
      · walk_at "gg"
        refine ⟨ρ, rfl, R4, fun n H5 b1 b2 f5 R5 => ?_⟩
        walk_at "gg"
        exact put (.int n) (.i n) H5 f5 R5 rfl (.inr (.inl ⟨c2, n, rfl, b1, b2⟩)) _ fun H8 q => q
      · walk_at "gg"
        refine ⟨ρ, _, z, rfl, R4, hv.tr t4, hz, fun n H5 b1 b2 f5 R5 => ?_⟩
        walk_at "gg"
        exact put (.int n) (.i n) H5 f5 R5 rfl (.inr (.inr ⟨c, c2, n, rfl, b1, b2⟩)) _ fun H8 q => q
  · rintro σ' H4 ⟨done, its, vs, w0, sh, rfl, f4, R4, hD, pvs, po, pf4, hp⟩
    rw [List.append_nil] at sh
    subst sh
    walk_at "gg"
    refine g_tupleOfL (SqL.of hD) fun q H5 n5 e5 h5 => ?_
    exact k q vs its H5 (f4.trans (Fr.of e5)) (R4.ex e5) (SqT.of h5) (L2.Paired.mapP pvs fun _ _ q => q.tr (TrT.of e5)) po
end
/-! ### x in a tuple of data -/
def rInDT (K : PySem.W.Frag) : R2 := fun x y H Q => ∃ d ds, Dp K H x d ∧ Dp K H y (.tuple ds) ∧ SeqAt.shaped d = true ∧ SeqAt.shaped (.list ds) = true ∧ Q (.bl (ds.any fun z => PyData.eqv z d)) H
def rNotInDT (K : PySem.W.Frag) : R2 := fun x y H Q => ∃ d ds, Dp K H x d ∧ Dp K H y (.tuple ds) ∧ SeqAt.shaped d = true ∧ SeqAt.shaped (.list ds) = true ∧ Q (.bl (!ds.any fun z => PyData.eqv z d)) H
section
variable {X : Cx}
theorem op_inDT (hu : X.A.units + 65 < cLine) : OpR X (compareOp .In) (rInDT X.K) := by
  intro pins s σ H x y v u Q I rx ry h
  obtain ⟨d, ds, hd, he, sd, se, q⟩ := h
  obtain ⟨as, r1⟩ := Dp.reads I d x v hd rx
  obtain ⟨bs, r2⟩ := Dp.reads I (.tuple ds) y u he ry
  exact SeqAt.in_tuple_reads r2 r1 (SeqAt.canLay_of_shaped se) (SeqAt.canLay_of_shaped sd) (room_in_shaped sd hu) ⟨.bl _, H, I, rfl, q⟩
theorem op_notInDT (hu : X.A.units + 65 < cLine) : OpR X (compareOp .NotIn) (rNotInDT X.K) := by
  intro pins s σ H x y v u Q I rx ry h
  obtain ⟨d, ds, hd, he, sd, se, q⟩ := h
  obtain ⟨as, r1⟩ := Dp.reads I d x v hd rx
  obtain ⟨bs, r2⟩ := Dp.reads I (.tuple ds) y u he ry
  exact SeqAt.notIn_tuple_reads r2 r1 (SeqAt.canLay_of_shaped se) (SeqAt.canLay_of_shaped sd) (room_in_shaped sd hu) ⟨.bl _, H, I, rfl, q⟩
end
local macro_rules | `(tactic| walk_at "m") => `(tactic| first
  | with_reducible refine g_m1 ?_
  | with_reducible refine g_isS ?_
  | with_reducible refine g_lcStr ?_
  | with_reducible refine g_join ?_
  | with_reducible refine g_js ?_
  | with_reducible refine g_jsN ?_
  | with_reducible refine g_fmt ?_
  | with_reducible refine g_callLam ?_
  | with_reducible refine g_revT ?_)

theorem g_lcZipV {K : PySem.W.Frag} {σ : St} {H : Hp} {Q : VK} {g : TG} {tt : TT} {te : TE} {vs : List Nat} {a b : Addr} {xs ys : List V} {i j : Nat} (e1 : σ[i]? = some (some (.ref a))) (e2 : σ[j]? = some (some (.ref b))) (q : SqT K H a xs) (q' : SqT K H b ys)
    (k : tLcZ K a b g tt te vs σ H Q) : tLc (RZ.iZipA K (tCons (tVar i) (tCons (tVar j) tNil))) g tt te vs σ H Q := ⟨_, e1, _, e2, a, b, xs, ys, rfl, .inr ⟨q, q', k⟩⟩
theorem mono_two {K : PySem.W.Frag} {i j : Nat} (x : V) (σ1 : St) (H1 : Hp) (N N' : St → Hp → Prop) (m : ∀ σ2 H2, N σ2 H2 → N' σ2 H2) (h : gTup K 2 (gCons (gName i) (gCons (gName j) gNil)) x σ1 H1 N) : gTup K 2 (gCons (gName i) (gCons (gName j) gNil)) x σ1 H1 N' := by
  obtain ⟨a, xs, e, q, l, v, r, e1, v2, r2, e2, er, n⟩ := h
  exact ⟨a, xs, e, q, l, v, r, e1, v2, r2, e2, er, m _ _ n⟩
def isWord (s : Str) : Prop := s = "instant" ∨ s = "reading" ∨ s = "time" ∨ s = "duration"
theorem shape_word (r : Rule) : ∀ s ∈ shapeR r, isWord s := by
  intro s hs
  unfold isWord
  cases r <;> (simp only [shapeR, List.mem_cons, List.not_mem_nil, or_false] at hs; first | (subst hs; simp) | (rcases hs with rfl | rfl <;> simp) | (rcases hs with rfl | rfl | rfl <;> simp))
/-! ### times, rules, kinds, arguments as data -/
def isTmD (w : Way) (z : Zone) (d : PyData) : Bool := match d with
  | .tuple [.int r, .int u] => decide (-90000 ≤ r ∧ r ≤ 90000) && (decide (0 ≤ u ∧ u ≤ 1) && decide (IsTm w z (r, u)))
  | _ => false
def tmOf (w : Way) (z : Zone) (p q : PyData) : Bool := match p, q with
  | .int r, .int u => decide (IsTm w z (r, u))
  | _, _ => false
theorem isTmD_pair {w : Way} {z : Zone} {p q : PyData} : isTmD w z (.tuple [p, q]) = (betD p (-90000) 90000 && (betD q 0 1 && tmOf w z p q)) := by
  cases p <;> cases q <;> first | rfl | simp [isTmD, betD, tmOf]
theorem isTmD_not {w : Way} {z : Zone} {d : PyData} (h : tupN d 2 = false) : isTmD w z d = false := by
  unfold isTmD
  split
  · cases h
  · rfl
theorem isTmD_of {w : Way} {z : Zone} {t : Tm} (h : IsTm w z t) (b1 : -90000 ≤ t.1) (b2 : t.1 ≤ 90000) (b3 : t.2 = 0 ∨ t.2 = 1) : isTmD w z (.tuple [.int t.1, .int t.2]) = true := by
  show (decide (-90000 ≤ t.1 ∧ t.1 ≤ 90000) && (decide (0 ≤ t.2 ∧ t.2 ≤ 1) && decide (IsTm w z (t.1, t.2)))) = true
  rw [decide_eq_true ⟨b1, b2⟩, decide_eq_true ⟨by omega, by omega⟩, decide_eq_true h]
  rfl
def isArgD (w : Way) (z : Zone) (word : Str) (d : PyData) : Bool :=
  if word = "instant" then betD d (-100000) 100000 else if word = "reading" then betD d (-90000) 90000 else if word = "time" then isTmD w z d else betD d (-4000) 4000
def allArgs (w : Way) (z : Zone) : List Str → List PyData → Bool
  | s :: ss, d :: ds => isArgD w z s d && allArgs w z ss ds
  | _, _ => true
def argsD (w : Way) (z : Zone) (ws : List Str) (d : PyData) : Bool := match d with
  | .tuple ds => decide (ds.length = ws.length) && allArgs w z ws ds
  | _ => false
def argAt (w : Way) (z : Zone) (ws : List Str) (ds : List PyData) (i : Nat) : Bool := match ws[i]?, ds[i]? with
  | some s, some d => isArgD w z s d
  | _, _ => true
theorem allArgs_range {w : Way} {z : Zone} : ∀ {ws : List Str} {ds : List PyData}, ds.length = ws.length → ((List.range ws.length).map (argAt w z ws ds)).all id = allArgs w z ws ds
  | [], _, _ => by cases ‹List PyData› <;> rfl
  | s :: ss, [], h => nomatch h
  | s :: ss, d :: ds, h => by
    have ih := allArgs_range (w := w) (z := z) (ws := ss) (ds := ds) (Nat.succ.inj h)
    rw [List.length_cons, List.range_succ_eq_map, List.map_cons, List.all_cons, List.map_map]
    show (isArgD w z s d && ((List.range ss.length).map fun i => argAt w z (s :: ss) (d :: ds) (i + 1)).all id) = (isArgD w z s d && allArgs w z ss ds)
    rw [← ih]
    rfl
theorem argsD_not {w : Way} {z : Zone} {ws : List Str} {d : PyData} (h : tupN d (ws.length : Int) = false) : argsD w z ws d = false := by
  unfold argsD
  unfold tupN at h
  split
  · rename_i ds
    have : ds.length ≠ ws.length := fun e => by
      have q : ¬ ((ds.length : Int) = (ws.length : Int)) := of_decide_eq_false h
      exact q (by rw [e])
    rw [decide_eq_false this, Bool.false_and]
  · rfl
def isStrD (d : PyData) : Bool := match d with
  | .str _ => true
  | _ => false
def RuleD (K : PySem.W.Frag) (H : Hp) (v : V) (b : Bool) : Prop := (b = true ∧ ∃ r : Rule, v = .str (ruleS r)) ∨ (b = false ∧ (v = .str "" ∨ v = .str "Later" ∨ v = .str "later " ∨ ∃ d, DaV K H v d ∧ isStrD d = false))
def kindsD : PyData := .tuple [.str "fixed", .str "skips", .str "repeats", .str "both"]
def KindD (K : PySem.W.Frag) (H : Hp) (v : V) (b : Bool) : Prop := ∃ d, Dp K H v d ∧ fits 1 d = true ∧ SeqAt.shaped d = true ∧ ([.str "fixed", .str "skips", .str "repeats", .str "both"] : List PyData).any (fun e => PyData.eqv e d) = b
/-! ### promises -/
section
variable {w : World} {K : PySem.W.Frag} {mg : Str → Option Value}
def sp_is_instant_d (K : PySem.W.Frag) : Sp := fun vs H Q _ => ∃ (v : V) (d : PyData), vs = [v] ∧ DaV K H v d ∧ Q (.bl (betD d (-100000) 100000)) H
def sp_is_reading_d (K : PySem.W.Frag) : Sp := fun vs H Q _ => ∃ (v : V) (d : PyData), vs = [v] ∧ DaV K H v d ∧ Q (.bl (betD d (-90000) 90000)) H
def sp_is_duration_d (K : PySem.W.Frag) : Sp := fun vs H Q _ => ∃ (v : V) (d : PyData), vs = [v] ∧ DaV K H v d ∧ Q (.bl (betD d (-9000) 9000)) H
def sp_is_time_d (K : PySem.W.Frag) : Sp := fun vs H Q _ => ∃ (wv zv v : V) (y : Way) (z : Zone) (d : PyData), vs = [wv, zv, v] ∧ WayV K H wv y ∧ ZV K H zv z ∧ okZ z = true ∧ DaV K H v d ∧ ∀ H', Ex H H' → Q (.bl (isTmD y z d)) H'
def sp_is_rule_d (K : PySem.W.Frag) : Sp := fun vs H Q _ => ∃ (v : V) (b : Bool), vs = [v] ∧ RuleD K H v b ∧ Q (.bl b) H
def sp_check_rule_x (T : Txt w K mg) : Sp := fun vs H Q E => ∃ (v : V) (b : Bool), vs = [v] ∧ RuleD K H v b ∧ (b = true → Q .non H) ∧ (b = false → E (.ref T.e_BadRule) none H)
def sp_check_kind_x (T : Txt w K mg) : Sp := fun vs H Q E => ∃ (v : V) (b : Bool), vs = [v] ∧ KindD K H v b ∧ (b = true → Q .non H) ∧ (b = false → E (.ref T.e_BadKind) none H)
def sp_check_duration_x (T : Txt w K mg) : Sp := fun vs H Q E => ∃ (v : V) (d : PyData), vs = [v] ∧ DaV K H v d ∧ (betD d (-9000) 9000 = true → Q .non H) ∧ (betD d (-9000) 9000 = false → E (.ref T.e_BadDuration) none H)
def sp_check_time_x (T : Txt w K mg) : Sp := fun vs H Q E => ∃ (wv zv v : V) (y : Way) (z : Zone) (d : PyData), vs = [wv, zv, v] ∧ WayV K H wv y ∧ ZV K H zv z ∧ okZ z = true ∧ DaV K H v d ∧
  (isTmD y z d = true → ∀ H', Ex H H' → Q .non H') ∧ (isTmD y z d = false → ∀ H', Ex H H' → E (.ref T.e_BadTime) none H')
def sp_to_instant_x (T : Txt w K mg) : Sp := fun vs H Q E => ∃ (wv zv v : V) (y : Way) (z : Zone) (d : PyData), vs = [wv, zv, v] ∧ WayV K H wv y ∧ ZV K H zv z ∧ okZ z = true ∧ DaV K H v d ∧ isTmD y z d = false ∧ ∀ H', Ex H H' → E (.ref T.e_BadTime) none H'
def sp_add_x (T : Txt w K mg) : Sp := fun vs H Q E => ∃ (wv zv v u : V) (y : Way) (z : Zone) (d e : PyData), vs = [wv, zv, v, u] ∧ WayV K H wv y ∧ ZV K H zv z ∧ okZ z = true ∧ DaV K H v d ∧ DaV K H u e ∧
  ((isTmD y z d = false ∧ ∀ H', Ex H H' → E (.ref T.e_BadTime) none H') ∨ (isTmD y z d = true ∧ betD e (-9000) 9000 = false ∧ ∀ H', Ex H H' → E (.ref T.e_BadDuration) none H'))
def spTT (T : Txt w K mg) : Sp := fun vs H Q E => ∃ (wv zv v u : V) (y : Way) (z : Zone) (d e : PyData), vs = [wv, zv, v, u] ∧ WayV K H wv y ∧ ZV K H zv z ∧ okZ z = true ∧ DaV K H v d ∧ DaV K H u e ∧
  (isTmD y z d = false ∨ (isTmD y z d = true ∧ isTmD y z e = false)) ∧ ∀ H', Ex H H' → E (.ref T.e_BadTime) none H'
def sp_subtract_x (T : Txt w K mg) : Sp := spTT T
def sp_compare_x (T : Txt w K mg) : Sp := spTT T
def sp_shape_x (T : Txt w K mg) : Sp := fun vs H Q E => ∃ v : V, vs = [v] ∧ RuleD K H v false ∧ E (.ref T.e_BadRule) none H
def sp_is_argument_d (K : PySem.W.Frag) : Sp := fun vs H Q _ => ∃ (wv zv v : V) (y : Way) (z : Zone) (word : Str) (d : PyData), vs = [wv, zv, .str word, v] ∧ isWord word ∧ WayV K H wv y ∧ ZV K H zv z ∧ okZ z = true ∧ DaV K H v d ∧ ∀ H', Ex H H' → Q (.bl (isArgD y z word d)) H'
def sp_are_arguments_d (K : PySem.W.Frag) : Sp := fun vs H Q _ => ∃ (wv zv v : V) (y : Way) (z : Zone) (r : Rule) (a : Addr) (d : PyData), vs = [wv, zv, .ref a, v] ∧ WayV K H wv y ∧ ZV K H zv z ∧ okZ z = true ∧ SqT K H a ((shapeR r).map V.str) ∧ DaV K H v d ∧ ∀ H', Ex H H' → Q (.bl (argsD y z (shapeR r) d)) H'
def sp_holds_for_x (T : Txt w K mg) : Sp := fun vs H Q E => ∃ (wv zv rv v : V) (y : Way) (z : Zone), vs = [wv, zv, rv, v] ∧ WayV K H wv y ∧ ZV K H zv z ∧ okZ z = true ∧
  ((RuleD K H rv false ∧ E (.ref T.e_BadRule) none H) ∨ (∃ (r : Rule) (d : PyData), rv = .str (ruleS r) ∧ DaV K H v d ∧ argsD y z (shapeR r) d = false ∧ ∀ H', Ex H H' → E (.ref T.e_BadArguments) none H'))
def spKR (T : Txt w K mg) : Sp := fun vs H Q E => ∃ (wv kv rv : V) (y : Way) (b : Bool), vs = [wv, kv, rv] ∧ WayV K H wv y ∧ KindD K H kv b ∧ ((b = false ∧ E (.ref T.e_BadKind) none H) ∨ (b = true ∧ RuleD K H rv false ∧ E (.ref T.e_BadRule) none H))
def sp_counterexample_x (T : Txt w K mg) : Sp := spKR T
def sp_holds_x (T : Txt w K mg) : Sp := spKR T
def sp_profile_x (T : Txt w K mg) : Sp := fun vs H Q E => ∃ (wv kv : V) (y : Way), vs = [wv, kv] ∧ WayV K H wv y ∧ KindD K H kv false ∧ E (.ref T.e_BadKind) none H
def sp_libraries_with_x (T : Txt w K mg) : Sp := fun vs H Q E => ∃ (kv x : V), vs = [kv, x] ∧ KindD K H kv false ∧ E (.ref T.e_BadKind) none H
def sp_most_rules_x (T : Txt w K mg) : Sp := fun vs H Q E => ∃ kv : V, vs = [kv] ∧ KindD K H kv false ∧ E (.ref T.e_BadKind) none H
def spKRR (T : Txt w K mg) : Sp := fun vs H Q E => ∃ (kv rv sv : V) (b b1 : Bool), vs = [kv, rv, sv] ∧ KindD K H kv b ∧ ((b = false ∧ E (.ref T.e_BadKind) none H) ∨ (b = true ∧ RuleD K H rv b1 ∧ ((b1 = false ∧ E (.ref T.e_BadRule) none H) ∨ (b1 = true ∧ RuleD K H sv false ∧ E (.ref T.e_BadRule) none H))))
def sp_parting_x (T : Txt w K mg) : Sp := spKRR T
def sp_implies_x (T : Txt w K mg) : Sp := spKRR T
end
section
variable {P : Program} {w : World} {K : PySem.W.Frag} {mg : Str → Option Value} {base : Heap}
theorem shapesK (T : Txt w K mg) (r : Rule) : ∃ a, KDct K w T.a_SHAPES (ruleS r) (.ref a) ∧ ∀ H, SqT K H a ((shapeR r).map V.str) := by
  cases r
  case fromU => exact ⟨_, T.k_SHAPES_0, T.q_SHAPES_0⟩
  case toU => exact ⟨_, T.k_SHAPES_1, T.q_SHAPES_1⟩
  case every => exact ⟨_, T.k_SHAPES_2, T.q_SHAPES_2⟩
  case someR => exact ⟨_, T.k_SHAPES_3, T.q_SHAPES_3⟩
  case there => exact ⟨_, T.k_SHAPES_4, T.q_SHAPES_4⟩
  case sumD => exact ⟨_, T.k_SHAPES_5, T.q_SHAPES_5⟩
  case elapsed => exact ⟨_, T.k_SHAPES_6, T.q_SHAPES_6⟩
  case same => exact ⟨_, T.k_SHAPES_7, T.q_SHAPES_7⟩
  case later => exact ⟨_, T.k_SHAPES_8, T.q_SHAPES_8⟩
  case told => exact ⟨_, T.k_SHAPES_9, T.q_SHAPES_9⟩
  case diff => exact ⟨_, T.k_SHAPES_10, T.q_SHAPES_10⟩
  case ordDiff => exact ⟨_, T.k_SHAPES_11, T.q_SHAPES_11⟩
  case eqOne => exact ⟨_, T.k_SHAPES_12, T.q_SHAPES_12⟩
  case oneEq => exact ⟨_, T.k_SHAPES_13, T.q_SHAPES_13⟩
  case oneOne => exact ⟨_, T.k_SHAPES_14, T.q_SHAPES_14⟩
  case ordInst => exact ⟨_, T.k_SHAPES_15, T.q_SHAPES_15⟩
  case kept => exact ⟨_, T.k_SHAPES_16, T.q_SHAPES_16⟩
  case eqSums => exact ⟨_, T.k_SHAPES_17, T.q_SHAPES_17⟩
theorem inShapes (T : Txt w K mg) {H : Hp} {Q : VK} (r : Rule) (k : Q (.bl true) H) : rInKD K w (.str (ruleS r)) (.ref T.a_SHAPES) H Q := by
  cases r
  case fromU => exact g_inKDy T.t_SHAPES T.k_SHAPES_0 k
  case toU => exact g_inKDy T.t_SHAPES T.k_SHAPES_1 k
  case every => exact g_inKDy T.t_SHAPES T.k_SHAPES_2 k
  case someR => exact g_inKDy T.t_SHAPES T.k_SHAPES_3 k
  case there => exact g_inKDy T.t_SHAPES T.k_SHAPES_4 k
  case sumD => exact g_inKDy T.t_SHAPES T.k_SHAPES_5 k
  case elapsed => exact g_inKDy T.t_SHAPES T.k_SHAPES_6 k
  case same => exact g_inKDy T.t_SHAPES T.k_SHAPES_7 k
  case later => exact g_inKDy T.t_SHAPES T.k_SHAPES_8 k
  case told => exact g_inKDy T.t_SHAPES T.k_SHAPES_9 k
  case diff => exact g_inKDy T.t_SHAPES T.k_SHAPES_10 k
  case ordDiff => exact g_inKDy T.t_SHAPES T.k_SHAPES_11 k
  case eqOne => exact g_inKDy T.t_SHAPES T.k_SHAPES_12 k
  case oneEq => exact g_inKDy T.t_SHAPES T.k_SHAPES_13 k
  case oneOne => exact g_inKDy T.t_SHAPES T.k_SHAPES_14 k
  case ordInst => exact g_inKDy T.t_SHAPES T.k_SHAPES_15 k
  case kept => exact g_inKDy T.t_SHAPES T.k_SHAPES_16 k
  case eqSums => exact g_inKDy T.t_SHAPES T.k_SHAPES_17 k
theorem ok_is_instant_d (T : Txt w K mg) : FnOk P w K mg base CX0 2 T.f_is_instant.f T.f_is_instant.fd ["value"] (sp_is_instant_d K) := by
  refine T.f_is_instant.F.ok sc_is_instant (fun vs H Q E h => ?_) (fun cdv A outer s H vs Q E hr h => ?_)
  · obtain ⟨v, d, rfl, _⟩ := h
    rfl
  obtain ⟨v, d, rfl, hv, k⟩ := h
  refine ⟨(tRet (tCall (sp_is_between_d K) [] E0 (tCons (tVar 0) (tCons (tUn (rU fun i => .int (-i)) (tC (.int 100000))) (tCons (tC (.int 100000)) tNil))))),
    PSs.nox (pss_one (ps_ret (pe_call (ok_is_between_d T) (hr.mono (by decide)) (by rfl) T.f_is_between.g T.f_is_between.F.kp T.f_is_between.b .nil pass0 (pa_cons (pv 0) (pa_cons (pe_un un_neg (pe_glob (by rfl) T.c_MOST_INSTANT ⟨_, rfl⟩)) (pa_cons (pe_glob (by rfl) T.c_MOST_INSTANT ⟨_, rfl⟩) pa_nil)))))), ?_⟩
  walk_at "gg"
  exact ⟨_, d, _, _, rfl, hv, k⟩
theorem ok_is_reading_d (T : Txt w K mg) : FnOk P w K mg base CX0 2 T.f_is_reading.f T.f_is_reading.fd ["value"] (sp_is_reading_d K) := by
  refine T.f_is_reading.F.ok sc_is_reading (fun vs H Q E h => ?_) (fun cdv A outer s H vs Q E hr h => ?_)
  · obtain ⟨v, d, rfl, _⟩ := h
    rfl
  obtain ⟨v, d, rfl, hv, k⟩ := h
  refine ⟨(tRet (tCall (sp_is_between_d K) [] E0 (tCons (tVar 0) (tCons (tUn (rU fun i => .int (-i)) (tC (.int 90000))) (tCons (tC (.int 90000)) tNil))))),
    PSs.nox (pss_one (ps_ret (pe_call (ok_is_between_d T) (hr.mono (by decide)) (by rfl) T.f_is_between.g T.f_is_between.F.kp T.f_is_between.b .nil pass0 (pa_cons (pv 0) (pa_cons (pe_un un_neg (pe_glob (by rfl) T.c_MOST_READING ⟨_, rfl⟩)) (pa_cons (pe_glob (by rfl) T.c_MOST_READING ⟨_, rfl⟩) pa_nil)))))), ?_⟩
  walk_at "gg"
  exact ⟨_, d, _, _, rfl, hv, k⟩
theorem ok_is_duration_d (T : Txt w K mg) : FnOk P w K mg base CX0 2 T.f_is_duration.f T.f_is_duration.fd ["value"] (sp_is_duration_d K) := by
  refine T.f_is_duration.F.ok sc_is_duration (fun vs H Q E h => ?_) (fun cdv A outer s H vs Q E hr h => ?_)
  · obtain ⟨v, d, rfl, _⟩ := h
    rfl
  obtain ⟨v, d, rfl, hv, k⟩ := h
  refine ⟨(tRet (tCall (sp_is_between_d K) [] E0 (tCons (tVar 0) (tCons (tUn (rU fun i => .int (-i)) (tC (.int 9000))) (tCons (tC (.int 9000)) tNil))))),
    PSs.nox (pss_one (ps_ret (pe_call (ok_is_between_d T) (hr.mono (by decide)) (by rfl) T.f_is_between.g T.f_is_between.F.kp T.f_is_between.b .nil pass0 (pa_cons (pv 0) (pa_cons (pe_un un_neg (pe_glob (by rfl) T.c_MOST_DURATION ⟨_, rfl⟩)) (pa_cons (pe_glob (by rfl) T.c_MOST_DURATION ⟨_, rfl⟩) pa_nil)))))), ?_⟩
  walk_at "gg"
  exact ⟨_, d, _, _, rfl, hv, k⟩
theorem ok_is_time_d (T : Txt w K mg) : FnOk P w K mg base CX0 6 T.f_is_time.f T.f_is_time.fd ["library", "zone", "value"] (sp_is_time_d K) := by
  refine T.f_is_time.F.ok sc_is_time (fun vs H Q E h => ?_) (fun cdv A outer s H vs Q E hr h => ?_)
  · obtain ⟨wv, zv, v, y, z, d, rfl, _⟩ := h
    rfl
  obtain ⟨wv, zv, v, y, z, d, rfl, hwv, hv, ho, dv, k⟩ := h
  have hz := OkZ.of ho
  refine ⟨(tSeq (tDrop (tCall (sp_check_library K) [] E0 (tCons (tVar 0) tNil))) (tSeq (tDrop (tCall (sp_check_zone K) [] E0 (tCons (tVar 1) tNil))) (tSeq (tIfS (tNot (tB (tCall (sp_is_tuple_of_d K) [] E0 (tCons (tC (.int 2)) (tCons (tVar 2) tNil))))) (tRet (tC (.bl false))) tNext) (tSeq (tAsg (tVar 2) (gTup K 2 (gCons (gName 3) (gCons (gName 4) gNil)))) (tSeq (tIfS (tOr (tNot (tB (tCall (sp_is_reading_d K) [] E0 (tCons (tVar 3) tNil)))) (tNot (tB (tCall (sp_is_between_d K) [] E0 (tCons (tVar 4) (tCons (tC (.int 0)) (tCons (tC (.int 1)) tNil))))))) (tRet (tC (.bl false))) tNext) (tRet (tOp (rIn K false) (tVar 4) (tCall (sp_passes_at K) [] E0 (tCons (tVar 0) (tCons (tVar 1) (tCons (tVar 3) tNil))))))))))),
    PSs.nox (pss_cons (ps_expr (pe_call (ok_check_library T) (hr.mono (by decide)) (by rfl) T.f_check_library.g T.f_check_library.F.kp T.f_check_library.b .nil pass0 (pa_cons (pv 0) pa_nil))) (pss_cons (ps_expr (pe_call (ok_check_zone T) (hr.mono (by decide)) (by rfl) T.f_check_zone.g T.f_check_zone.F.kp T.f_check_zone.b .nil pass0 (pa_cons (pv 1) pa_nil))) (pss_cons (ps_if (pt_not (pt_val (pe_call (ok_is_tuple_of_d T) (hr.mono (by decide)) (by rfl) T.f_is_tuple_of.g T.f_is_tuple_of.F.kp T.f_is_tuple_of.b .nil pass0 (pa_cons pe_int (pa_cons (pv 2) pa_nil))))) (pss_one (ps_ret pe_bl)) pss_nil) (pss_cons (ps_asg (pv 2) (pg_tup rfl (pgs_cons (pg_name (i := 3) sc_is_time.nd rfl (Or.inl rfl)) (pgs_cons (pg_name (i := 4) sc_is_time.nd rfl (Or.inl rfl)) pgs_nil)))) (pss_cons (ps_if (PW.pt (pw_or (pt_not (pt_val (pe_call (ok_is_reading_d T) (hr.mono (by decide)) (by rfl) T.f_is_reading.g T.f_is_reading.F.kp T.f_is_reading.b .nil pass0 (pa_cons (pv 3) pa_nil)))) (pw_or1 (pt_not (pt_val (pe_call (ok_is_between_d T) (hr.mono (by decide)) (by rfl) T.f_is_between.g T.f_is_between.F.kp T.f_is_between.b .nil pass0 (pa_cons (pv 4) (pa_cons pe_int (pa_cons pe_int pa_nil))))))))) (pss_one (ps_ret pe_bl)) pss_nil) (pss_one (ps_ret (pe_cmpR op_in_seq (pv 4) (pe_call (ok_passes_at T) (hr.mono (by decide)) (by rfl) T.f_passes_at.g T.f_passes_at.F.kp T.f_passes_at.b .nil pass0 (pa_cons (pv 0) (pa_cons (pv 1) (pa_cons (pv 3) pa_nil)))) (by rfl))))))))), ?_⟩
  walk_at "gg"
  refine ⟨_, y, rfl, hwv, ?_⟩
  walk_at "gg"
  refine ⟨_, z, rfl, hv, ho, ?_⟩
  walk_at "gg"
  refine ⟨2, _, d, rfl, dv, ?_⟩
  cases c0 : tupN d 2 with
  | false =>
    rw [isTmD_not c0] at k
    walk_at "gg"
    exact k _ (Evl.Ex.refl _)
  | true =>
    obtain ⟨a, x, u, p, q, rfl, rfl, ht, hp, hq⟩ := dav_two dv c0
    rw [isTmD_pair] at k
    walk_at "gg"
    refine ⟨_, p, rfl, hp, ?_⟩
    cases c1 : betD p (-90000) 90000 with
    | false =>
      rw [c1] at k
      walk_at "gg"
      exact k _ (Evl.Ex.refl _)
    | true =>
      walk_at "gg"
      refine ⟨_, q, _, _, rfl, hq, ?_⟩
      cases c2 : betD q 0 1 with
      | false =>
        rw [c1, c2] at k
        walk_at "gg"
        exact k _ (Evl.Ex.refl _)
      | true =>
        rw [c1, c2] at k
        obtain ⟨r, rfl, b1, b2⟩ := bet_int c1
        obtain ⟨t, rfl, b3, b4⟩ := bet_int c2
        cases dav_int hp
        cases dav_int hq
        walk_at "gg"
        refine ⟨_, _, y, z, _, rfl, hwv, hv, hz, hz.le2 _, fun p H1 e1 h1 => ?_⟩
        refine g_inTu h1 rfl ?_ ?_
        · rw [List.all_map]
          exact List.all_eq_true.mpr fun _ _ => rfl
        · have q := tm_in (w := y) (z := z) (t := (r, t)) (show t = 0 ∨ t = 1 by omega)
          rw [show inV (.int t) ((times y z r).map fun x => V.int x.2) = _ from q]
          exact k _ e1
theorem ok_is_rule_d (T : Txt w K mg) : FnOk P w K mg base CX0 1 T.f_is_rule.f T.f_is_rule.fd ["value"] (sp_is_rule_d K) := by
  refine T.f_is_rule.F.ok sc_is_rule (fun vs H Q E h => ?_) (fun cdv A outer s H vs Q E hr h => ?_)
  · obtain ⟨v, b, rfl, _⟩ := h
    rfl
  obtain ⟨v, b, rfl, hv, k⟩ := h
  refine ⟨(tRet (tAndV (tCB (rIsi K) (tCons (tVar 0) (tCons (tC (.ty "str")) tNil))) (tOp (rInKD K w) (tVar 0) (tC (.ref T.a_SHAPES))))),
    PSs.nox (pss_one (ps_ret (pe_and (pe_callB call_isi (by rfl) T.z_isinstance (by decide +kernel) (pa_cons (pv 0) (pa_cons (pe_bltn (by rfl) T.z_str (by decide +kernel) rfl) pa_nil))) (pe_one (pe_cmpR op_inKD (pv 0) (pe_glob (by rfl) T.c_SHAPES rfl) (by rfl)))))), ?_⟩
  walk_at "qq"
  rcases hv with ⟨rfl, r, rfl⟩ | ⟨rfl, rfl | rfl | rfl | ⟨d, dv, nd⟩⟩
  · refine g_isi ty_str rfl ?_
    walk_at "qq"
    exact inShapes T r k
  · refine g_isi ty_str rfl ?_
    walk_at "qq"
    exact g_inKDn T.t_SHAPES T.n_SHAPES_0 k
  · refine g_isi ty_str rfl ?_
    walk_at "qq"
    exact g_inKDn T.t_SHAPES T.n_SHAPES_1 k
  · refine g_isi ty_str rfl ?_
    walk_at "qq"
    exact g_inKDn T.t_SHAPES T.n_SHAPES_2 k
  · cases dv with
    | non =>
      refine g_isi ty_non (by decide +kernel : kitB "NoneType" "str" = some false) ?_
      walk_at "qq"
      exact k
    | bl b =>
      refine g_isi ty_bl (by decide +kernel : kitB "bool" "str" = some false) ?_
      walk_at "qq"
      exact k
    | int i =>
      refine g_isi ty_int (by decide +kernel : kitB "int" "str" = some false) ?_
      walk_at "qq"
      exact k
    | str x => cases nd
    | lst q =>
      refine g_isi (ty_lst q) (by decide +kernel : kitB "list" "str" = some false) ?_
      walk_at "qq"
      exact k
    | tup q l ih =>
      refine g_isi (ty_tup q) (by decide +kernel : kitB "tuple" "str" = some false) ?_
      walk_at "qq"
      exact k
theorem ok_check_rule_x (T : Txt w K mg) : FnOk P w K mg base (L2.CX P w) 2 T.f_check_rule.f T.f_check_rule.fd ["value"] (sp_check_rule_x T) := by
  refine T.f_check_rule.F.ok sc_check_rule (fun vs H Q E h => ?_) (fun cdv A outer s H vs Q E hr h => ?_)
  · obtain ⟨v, b, rfl, _⟩ := h
    rfl
  obtain ⟨v, b, rfl, hv, k1, k2⟩ := h
  refine ⟨(tIfS (tNot (tB (tCall (sp_is_rule_d K) [] E0 (tCons (tVar 0) tNil)))) (fun _ σ H => E (.ref T.e_BadRule) none H) tNext),
    (pss_one (ps_if (pt_not (pt_val (pe_call (ok_is_rule_d T) (hr.mono (by decide)) (by rfl) T.f_is_rule.g T.f_is_rule.F.kp T.f_is_rule.b .nil pass0 (pa_cons (pv 0) pa_nil)))) (pss_one (ps_err rfl (takes_of rfl rfl rfl rfl) T.g_BadRule T.x_BadRule rfl)) pss_nil)), ?_⟩
  walk_at "gg"
  refine ⟨v, b, rfl, hv, ?_⟩
  walk_at "gg"
  cases b with
  | true => walk_at "gg"; exact k1 rfl
  | false => walk_at "gg"; exact k2 rfl
theorem ok_check_kind_x (T : Txt w K mg) : FnOk P w K mg base (L2.CX P w) 1 T.f_check_kind.f T.f_check_kind.fd ["value"] (sp_check_kind_x T) := by
  refine T.f_check_kind.F.ok sc_check_kind (fun vs H Q E h => ?_) (fun cdv A outer s H vs Q E hr h => ?_)
  · obtain ⟨v, b, rfl, _⟩ := h
    rfl
  obtain ⟨v, b, rfl, ⟨d, dv, df, ds, hb⟩, k1, k2⟩ := h
  refine ⟨(tIfS (tTest (tOp (rNotInDT K) (tVar 0) (tC (.ref T.a_KINDS)))) (fun _ σ H => E (.ref T.e_BadKind) none H) tNext),
    (pss_one (ps_if (pt_cmpR (op_notInDT (room65 hr)) (pv 0) (pe_glob (by rfl) T.c_KINDS rfl) (by rfl)) (pss_one (ps_err rfl (takes_of rfl rfl rfl rfl) T.g_BadKind T.x_BadKind rfl)) pss_nil)), ?_⟩
  walk_at "gg"
  refine ⟨d, _, dv, .tup (T.q_KINDS _) (.cons (.str _) (.cons (.str _) (.cons (.str _) (.cons (.str _) .nil)))), ds, by decide +kernel, ?_⟩
  rw [hb]
  cases b with
  | true => walk_at "gg"; exact k1 rfl
  | false => walk_at "gg"; exact k2 rfl
theorem ok_check_duration_x (T : Txt w K mg) : FnOk P w K mg base (L2.CX P w) 3 T.f_check_duration.f T.f_check_duration.fd ["value"] (sp_check_duration_x T) := by
  refine T.f_check_duration.F.ok sc_check_duration (fun vs H Q E h => ?_) (fun cdv A outer s H vs Q E hr h => ?_)
  · obtain ⟨v, d, rfl, _⟩ := h
    rfl
  obtain ⟨v, d, rfl, hv, k1, k2⟩ := h
  refine ⟨(tIfS (tNot (tB (tCall (sp_is_duration_d K) [] E0 (tCons (tVar 0) tNil)))) (fun _ σ H => E (.ref T.e_BadDuration) none H) tNext),
    (pss_one (ps_if (pt_not (pt_val (pe_call (ok_is_duration_d T) (hr.mono (by decide)) (by rfl) T.f_is_duration.g T.f_is_duration.F.kp T.f_is_duration.b .nil pass0 (pa_cons (pv 0) pa_nil)))) (pss_one (ps_err rfl (takes_of rfl rfl rfl rfl) T.g_BadDuration T.x_BadDuration rfl)) pss_nil)), ?_⟩
  walk_at "gg"
  refine ⟨v, d, rfl, hv, ?_⟩
  walk_at "gg"
  cases c : betD d (-9000) 9000 with
  | true => walk_at "gg"; exact k1 c
  | false => walk_at "gg"; exact k2 c
theorem ok_check_time_x (T : Txt w K mg) : FnOk P w K mg base (L2.CX P w) 7 T.f_check_time.f T.f_check_time.fd ["library", "zone", "value"] (sp_check_time_x T) := by
  refine T.f_check_time.F.ok sc_check_time (fun vs H Q E h => ?_) (fun cdv A outer s H vs Q E hr h => ?_)
  · obtain ⟨wv, zv, v, y, z, d, rfl, _⟩ := h
    rfl
  obtain ⟨wv, zv, v, y, z, d, rfl, hwv, hv, ho, dv, k1, k2⟩ := h
  refine ⟨(tIfS (tNot (tB (tCall (sp_is_time_d K) [] E0 (tCons (tVar 0) (tCons (tVar 1) (tCons (tVar 2) tNil)))))) (fun _ σ H => E (.ref T.e_BadTime) none H) tNext),
    (pss_one (ps_if (pt_not (pt_val (pe_call (ok_is_time_d T) (hr.mono (by decide)) (by rfl) T.f_is_time.g T.f_is_time.F.kp T.f_is_time.b .nil pass0 (pa_cons (pv 0) (pa_cons (pv 1) (pa_cons (pv 2) pa_nil)))))) (pss_one (ps_err rfl (takes_of rfl rfl rfl rfl) T.g_BadTime T.x_BadTime rfl)) pss_nil)), ?_⟩
  walk_at "gg"
  refine ⟨_, _, _, y, z, d, rfl, hwv, hv, ho, dv, fun H1 e1 => ?_⟩
  walk_at "gg"
  cases c : isTmD y z d with
  | true => walk_at "gg"; exact k1 c _ e1
  | false => walk_at "gg"; exact k2 c _ e1
theorem ok_to_instant_x (T : Txt w K mg) : FnOk P w K mg base (L2.CX P w) 8 T.f_to_instant.f T.f_to_instant.fd ["library", "zone", "time"] (sp_to_instant_x T) := by
  refine T.f_to_instant.F.ok sc_to_instant (fun vs H Q E h => ?_) (fun cdv A outer s H vs Q E hr h => ?_)
  · obtain ⟨wv, zv, v, y, z, d, rfl, _⟩ := h
    rfl
  obtain ⟨wv, zv, v, y, z, d, rfl, hwv, hv, ho, dv, c, k2⟩ := h
  refine ⟨(tSeq (tDrop (tCall (sp_check_time_x T) [] E (tCons (tVar 0) (tCons (tVar 1) (tCons (tVar 2) tNil))))) tNever),
    (pss_cons (ps_expr (pe_call (ok_check_time_x T) (hr.mono (by decide)) (by rfl) T.f_check_time.g T.f_check_time.F.kp T.f_check_time.b .nil (passU (takes_of rfl rfl rfl rfl)) (pa_cons (pv 0) (pa_cons (pv 1) (pa_cons (pv 2) pa_nil))))) (pss_one ps_never)), ?_⟩
  walk_at "gg"
  exact ⟨_, _, _, y, z, d, rfl, hwv, hv, ho, dv, fun c1 => absurd (c.symm.trans c1) (by decide), fun _ H1 e1 => k2 H1 e1⟩
theorem ok_add_x (T : Txt w K mg) : FnOk P w K mg base (L2.CX P w) 8 T.f_add.f T.f_add.fd ["library", "zone", "time", "duration"] (sp_add_x T) := by
  refine T.f_add.F.ok sc_add (fun vs H Q E h => ?_) (fun cdv A outer s H vs Q E hr h => ?_)
  · obtain ⟨wv, zv, v, u, y, z, d, e, rfl, _⟩ := h
    rfl
  obtain ⟨wv, zv, v, u, y, z, d, e, rfl, hwv, hv, ho, dv, du, k⟩ := h
  refine ⟨(tSeq (tDrop (tCall (sp_check_time_x T) [] E (tCons (tVar 0) (tCons (tVar 1) (tCons (tVar 2) tNil))))) (tSeq (tDrop (tCall (sp_check_duration_x T) [] E (tCons (tVar 3) tNil))) tNever)),
    (pss_cons (ps_expr (pe_call (ok_check_time_x T) (hr.mono (by decide)) (by rfl) T.f_check_time.g T.f_check_time.F.kp T.f_check_time.b .nil (passU (takes_of rfl rfl rfl rfl)) (pa_cons (pv 0) (pa_cons (pv 1) (pa_cons (pv 2) pa_nil))))) (pss_cons (ps_expr (pe_call (ok_check_duration_x T) (hr.mono (by decide)) (by rfl) T.f_check_duration.g T.f_check_duration.F.kp T.f_check_duration.b .nil (passU (takes_of rfl rfl rfl rfl)) (pa_cons (pv 3) pa_nil))) (pss_one ps_never))), ?_⟩
  walk_at "gg"
  refine ⟨_, _, _, y, z, d, rfl, hwv, hv, ho, dv, fun c1 H1 e1 => ?_, fun c1 H1 e1 => ?_⟩
  · rcases k with ⟨c, _⟩ | ⟨_, c2, k2⟩
    · exact absurd (c.symm.trans c1) (by decide)
    · walk_at "gg"
      exact ⟨_, e, rfl, du.ex e1, fun c3 => absurd (c2.symm.trans c3) (by decide), fun _ => k2 H1 e1⟩
  · rcases k with ⟨_, k2⟩ | ⟨c, _⟩
    · exact k2 H1 e1
    · exact absurd (c.symm.trans c1) (by decide)
theorem ok_subtract_x (T : Txt w K mg) : FnOk P w K mg base (L2.CX P w) 8 T.f_subtract.f T.f_subtract.fd ["library", "zone", "one", "other"] (sp_subtract_x T) := by
  refine T.f_subtract.F.ok sc_subtract (fun vs H Q E h => ?_) (fun cdv A outer s H vs Q E hr h => ?_)
  · obtain ⟨wv, zv, v, u, y, z, d, e, rfl, _⟩ := h
    rfl
  obtain ⟨wv, zv, v, u, y, z, d, e, rfl, hwv, hv, ho, dv, du, c, k⟩ := h
  refine ⟨(tSeq (tDrop (tCall (sp_check_time_x T) [] E (tCons (tVar 0) (tCons (tVar 1) (tCons (tVar 2) tNil))))) (tSeq (tDrop (tCall (sp_check_time_x T) [] E (tCons (tVar 0) (tCons (tVar 1) (tCons (tVar 3) tNil))))) tNever)),
    (pss_cons (ps_expr (pe_call (ok_check_time_x T) (hr.mono (by decide)) (by rfl) T.f_check_time.g T.f_check_time.F.kp T.f_check_time.b .nil (passU (takes_of rfl rfl rfl rfl)) (pa_cons (pv 0) (pa_cons (pv 1) (pa_cons (pv 2) pa_nil))))) (pss_cons (ps_expr (pe_call (ok_check_time_x T) (hr.mono (by decide)) (by rfl) T.f_check_time.g T.f_check_time.F.kp T.f_check_time.b .nil (passU (takes_of rfl rfl rfl rfl)) (pa_cons (pv 0) (pa_cons (pv 1) (pa_cons (pv 3) pa_nil))))) (pss_one ps_never))), ?_⟩
  walk_at "gg"
  refine ⟨_, _, _, y, z, d, rfl, hwv, hv, ho, dv, fun c1 H1 e1 => ?_, fun c1 H1 e1 => k H1 e1⟩
  rcases c with c | ⟨_, c2⟩
  · exact absurd (c.symm.trans c1) (by decide)
  · walk_at "gg"
    exact ⟨_, _, _, y, z, e, rfl, hwv.tr (TrT.of e1), hv.tr (TrT.of e1), ho, du.ex e1, fun c3 => absurd (c2.symm.trans c3) (by decide), fun _ H2 e2 => k H2 (e1.trans e2)⟩
theorem ok_compare_x (T : Txt w K mg) : FnOk P w K mg base (L2.CX P w) 8 T.f_compare.f T.f_compare.fd ["library", "zone", "one", "other"] (sp_compare_x T) := by
  refine T.f_compare.F.ok sc_compare (fun vs H Q E h => ?_) (fun cdv A outer s H vs Q E hr h => ?_)
  · obtain ⟨wv, zv, v, u, y, z, d, e, rfl, _⟩ := h
    rfl
  obtain ⟨wv, zv, v, u, y, z, d, e, rfl, hwv, hv, ho, dv, du, c, k⟩ := h
  refine ⟨(tSeq (tDrop (tCall (sp_check_time_x T) [] E (tCons (tVar 0) (tCons (tVar 1) (tCons (tVar 2) tNil))))) (tSeq (tDrop (tCall (sp_check_time_x T) [] E (tCons (tVar 0) (tCons (tVar 1) (tCons (tVar 3) tNil))))) tNever)),
    (pss_cons (ps_expr (pe_call (ok_check_time_x T) (hr.mono (by decide)) (by rfl) T.f_check_time.g T.f_check_time.F.kp T.f_check_time.b .nil (passU (takes_of rfl rfl rfl rfl)) (pa_cons (pv 0) (pa_cons (pv 1) (pa_cons (pv 2) pa_nil))))) (pss_cons (ps_expr (pe_call (ok_check_time_x T) (hr.mono (by decide)) (by rfl) T.f_check_time.g T.f_check_time.F.kp T.f_check_time.b .nil (passU (takes_of rfl rfl rfl rfl)) (pa_cons (pv 0) (pa_cons (pv 1) (pa_cons (pv 3) pa_nil))))) (pss_one ps_never))), ?_⟩
  walk_at "gg"
  refine ⟨_, _, _, y, z, d, rfl, hwv, hv, ho, dv, fun c1 H1 e1 => ?_, fun c1 H1 e1 => k H1 e1⟩
  rcases c with c | ⟨_, c2⟩
  · exact absurd (c.symm.trans c1) (by decide)
  · walk_at "gg"
    exact ⟨_, _, _, y, z, e, rfl, hwv.tr (TrT.of e1), hv.tr (TrT.of e1), ho, du.ex e1, fun c3 => absurd (c2.symm.trans c3) (by decide), fun _ H2 e2 => k H2 (e1.trans e2)⟩
theorem ok_shape_x (T : Txt w K mg) : FnOk P w K mg base (L2.CX P w) 3 T.f_shape.f T.f_shape.fd ["rule"] (sp_shape_x T) := by
  refine T.f_shape.F.ok sc_shape (fun vs H Q E h => ?_) (fun cdv A outer s H vs Q E hr h => ?_)
  · obtain ⟨v, rfl, _⟩ := h
    rfl
  obtain ⟨v, rfl, hv, k⟩ := h
  refine ⟨(tSeq (tDrop (tCall (sp_check_rule_x T) [] E (tCons (tVar 0) tNil))) tNever),
    (pss_cons (ps_expr (pe_call (ok_check_rule_x T) (hr.mono (by decide)) (by rfl) T.f_check_rule.g T.f_check_rule.F.kp T.f_check_rule.b .nil (passU (takes_of rfl rfl rfl rfl)) (pa_cons (pv 0) pa_nil))) (pss_one ps_never)), ?_⟩
  walk_at "gg"
  exact ⟨_, false, rfl, hv, (fun z => nomatch z), fun _ => k⟩
theorem ok_counterexample_x (T : Txt w K mg) : FnOk P w K mg base (L2.CX P w) 4 T.f_counterexample.f T.f_counterexample.fd ["library", "kind", "rule"] (sp_counterexample_x T) := by
  refine T.f_counterexample.F.ok sc_counterexample (fun vs H Q E h => ?_) (fun cdv A outer s H vs Q E hr h => ?_)
  · obtain ⟨wv, kv, rv, y, b, rfl, _⟩ := h
    rfl
  obtain ⟨wv, kv, rv, y, b, rfl, hw, hk, k⟩ := h
  refine ⟨(tSeq (tDrop (tCall (sp_check_library K) [] E0 (tCons (tVar 0) tNil))) (tSeq (tDrop (tCall (sp_check_kind_x T) [] E (tCons (tVar 1) tNil))) (tSeq (tDrop (tCall (sp_check_rule_x T) [] E (tCons (tVar 2) tNil))) (tSeq tNever (tSeq tNever tNever))))),
    (pss_cons (ps_expr (pe_call (ok_check_library T) (hr.mono (by decide)) (by rfl) T.f_check_library.g T.f_check_library.F.kp T.f_check_library.b .nil pass0 (pa_cons (pv 0) pa_nil))) (pss_cons (ps_expr (pe_call (ok_check_kind_x T) (hr.mono (by decide)) (by rfl) T.f_check_kind.g T.f_check_kind.F.kp T.f_check_kind.b .nil (passU (takes_of rfl rfl rfl rfl)) (pa_cons (pv 1) pa_nil))) (pss_cons (ps_expr (pe_call (ok_check_rule_x T) (hr.mono (by decide)) (by rfl) T.f_check_rule.g T.f_check_rule.F.kp T.f_check_rule.b .nil (passU (takes_of rfl rfl rfl rfl)) (pa_cons (pv 2) pa_nil))) (pss_cons ps_never (pss_cons ps_never (pss_one ps_never)))))), ?_⟩
  walk_at "gg"
  refine ⟨_, y, rfl, hw, ?_⟩
  walk_at "gg"
  refine ⟨_, b, rfl, hk, fun c => ?_, fun c => ?_⟩
  · rcases k with ⟨c2, _⟩ | ⟨_, hr, k2⟩
    · exact absurd (c2.symm.trans c) (by decide)
    · walk_at "gg"
      exact ⟨_, false, rfl, hr, (fun z => nomatch z), fun _ => k2⟩
  · rcases k with ⟨_, k2⟩ | ⟨c2, _⟩
    · exact k2
    · exact absurd (c2.symm.trans c) (by decide)
theorem ok_holds_x (T : Txt w K mg) : FnOk P w K mg base (L2.CX P w) 5 T.f_holds.f T.f_holds.fd ["library", "kind", "rule"] (sp_holds_x T) := by
  refine T.f_holds.F.ok sc_holds (fun vs H Q E h => ?_) (fun cdv A outer s H vs Q E hr h => ?_)
  · obtain ⟨wv, kv, rv, y, b, rfl, _⟩ := h
    rfl
  obtain ⟨wv, kv, rv, y, b, rfl, hw, hk, k⟩ := h
  refine ⟨(tRet (tOp r_isN (tCall (sp_counterexample_x T) [] E (tCons (tVar 0) (tCons (tVar 1) (tCons (tVar 2) tNil)))) (tC .non))),
    (pss_one (ps_ret (pe_cmpR op_isN (pe_call (ok_counterexample_x T) (hr.mono (by decide)) (by rfl) T.f_counterexample.g T.f_counterexample.F.kp T.f_counterexample.b .nil (passU (takes_of rfl rfl rfl rfl)) (pa_cons (pv 0) (pa_cons (pv 1) (pa_cons (pv 2) pa_nil)))) pe_non (nomark _)))), ?_⟩
  walk_at "gg"
  exact ⟨_, _, _, y, b, rfl, hw, hk, k⟩
theorem ok_profile_x (T : Txt w K mg) : FnOk P w K mg base (L2.CX P w) 4 T.f_profile.f T.f_profile.fd ["library", "kind"] (sp_profile_x T) := by
  refine T.f_profile.F.ok sc_profile (fun vs H Q E h => ?_) (fun cdv A outer s H vs Q E hr h => ?_)
  · obtain ⟨wv, kv, y, rfl, _⟩ := h
    rfl
  obtain ⟨wv, kv, y, rfl, hw, hk, k⟩ := h
  refine ⟨(tSeq (tDrop (tCall (sp_check_library K) [] E0 (tCons (tVar 0) tNil))) (tSeq (tDrop (tCall (sp_check_kind_x T) [] E (tCons (tVar 1) tNil))) tNever)),
    (pss_cons (ps_expr (pe_call (ok_check_library T) (hr.mono (by decide)) (by rfl) T.f_check_library.g T.f_check_library.F.kp T.f_check_library.b .nil pass0 (pa_cons (pv 0) pa_nil))) (pss_cons (ps_expr (pe_call (ok_check_kind_x T) (hr.mono (by decide)) (by rfl) T.f_check_kind.g T.f_check_kind.F.kp T.f_check_kind.b .nil (passU (takes_of rfl rfl rfl rfl)) (pa_cons (pv 1) pa_nil))) (pss_one ps_never))), ?_⟩
  walk_at "gg"
  refine ⟨_, y, rfl, hw, ?_⟩
  walk_at "gg"
  exact ⟨_, false, rfl, hk, (fun z => nomatch z), fun _ => k⟩
theorem ok_libraries_with_x (T : Txt w K mg) : FnOk P w K mg base (L2.CX P w) 2 T.f_libraries_with.f T.f_libraries_with.fd ["kind", "wanted"] (sp_libraries_with_x T) := by
  refine T.f_libraries_with.F.ok sc_libraries_with (fun vs H Q E h => ?_) (fun cdv A outer s H vs Q E hr h => ?_)
  · obtain ⟨kv, x, rfl, _⟩ := h
    rfl
  obtain ⟨kv, x, rfl, hk, k⟩ := h
  refine ⟨(tSeq (tDrop (tCall (sp_check_kind_x T) [] E (tCons (tVar 0) tNil))) (tSeq tNever tNever)),
    (pss_cons (ps_expr (pe_call (ok_check_kind_x T) (hr.mono (by decide)) (by rfl) T.f_check_kind.g T.f_check_kind.F.kp T.f_check_kind.b .nil (passU (takes_of rfl rfl rfl rfl)) (pa_cons (pv 0) pa_nil))) (pss_cons ps_never (pss_one ps_never))), ?_⟩
  walk_at "gg"
  exact ⟨_, false, rfl, hk, (fun z => nomatch z), fun _ => k⟩
theorem ok_most_rules_x (T : Txt w K mg) : FnOk P w K mg base (L2.CX P w) 2 T.f_most_rules.f T.f_most_rules.fd ["kind"] (sp_most_rules_x T) := by
  refine T.f_most_rules.F.ok sc_most_rules (fun vs H Q E h => ?_) (fun cdv A outer s H vs Q E hr h => ?_)
  · obtain ⟨kv, rfl, _⟩ := h
    rfl
  obtain ⟨kv, rfl, hk, k⟩ := h
  refine ⟨(tSeq (tDrop (tCall (sp_check_kind_x T) [] E (tCons (tVar 0) tNil))) (tSeq tNever (tSeq tNever tNever))),
    (pss_cons (ps_expr (pe_call (ok_check_kind_x T) (hr.mono (by decide)) (by rfl) T.f_check_kind.g T.f_check_kind.F.kp T.f_check_kind.b .nil (passU (takes_of rfl rfl rfl rfl)) (pa_cons (pv 0) pa_nil))) (pss_cons ps_never (pss_cons ps_never (pss_one ps_never)))), ?_⟩
  walk_at "gg"
  exact ⟨_, false, rfl, hk, (fun z => nomatch z), fun _ => k⟩
theorem ok_parting_x (T : Txt w K mg) : FnOk P w K mg base (L2.CX P w) 3 T.f_parting.f T.f_parting.fd ["kind", "one", "other"] (sp_parting_x T) := by
  refine T.f_parting.F.ok sc_parting (fun vs H Q E h => ?_) (fun cdv A outer s H vs Q E hr h => ?_)
  · obtain ⟨kv, rv, sv, b, b1, rfl, _⟩ := h
    rfl
  obtain ⟨kv, rv, sv, b, b1, rfl, hk, k⟩ := h
  refine ⟨(tSeq (tDrop (tCall (sp_check_kind_x T) [] E (tCons (tVar 0) tNil))) (tSeq (tDrop (tCall (sp_check_rule_x T) [] E (tCons (tVar 1) tNil))) (tSeq (tDrop (tCall (sp_check_rule_x T) [] E (tCons (tVar 2) tNil))) (tSeq tNever tNever)))),
    (pss_cons (ps_expr (pe_call (ok_check_kind_x T) (hr.mono (by decide)) (by rfl) T.f_check_kind.g T.f_check_kind.F.kp T.f_check_kind.b .nil (passU (takes_of rfl rfl rfl rfl)) (pa_cons (pv 0) pa_nil))) (pss_cons (ps_expr (pe_call (ok_check_rule_x T) (hr.mono (by decide)) (by rfl) T.f_check_rule.g T.f_check_rule.F.kp T.f_check_rule.b .nil (passU (takes_of rfl rfl rfl rfl)) (pa_cons (pv 1) pa_nil))) (pss_cons (ps_expr (pe_call (ok_check_rule_x T) (hr.mono (by decide)) (by rfl) T.f_check_rule.g T.f_check_rule.F.kp T.f_check_rule.b .nil (passU (takes_of rfl rfl rfl rfl)) (pa_cons (pv 2) pa_nil))) (pss_cons ps_never (pss_one ps_never))))), ?_⟩
  walk_at "gg"
  refine ⟨_, b, rfl, hk, fun c => ?_, fun c => ?_⟩
  · rcases k with ⟨c2, _⟩ | ⟨_, hr, k⟩
    · exact absurd (c2.symm.trans c) (by decide)
    · walk_at "gg"
      refine ⟨_, b1, rfl, hr, fun c => ?_, fun c => ?_⟩
      · rcases k with ⟨c2, _⟩ | ⟨_, hs, k2⟩
        · exact absurd (c2.symm.trans c) (by decide)
        · walk_at "gg"
          exact ⟨_, false, rfl, hs, (fun z => nomatch z), fun _ => k2⟩
      · rcases k with ⟨_, k2⟩ | ⟨c2, _⟩
        · exact k2
        · exact absurd (c2.symm.trans c) (by decide)
  · rcases k with ⟨_, k2⟩ | ⟨c2, _⟩
    · exact k2
    · exact absurd (c2.symm.trans c) (by decide)
theorem ok_implies_x (T : Txt w K mg) : FnOk P w K mg base (L2.CX P w) 4 T.f_implies.f T.f_implies.fd ["kind", "one", "other"] (sp_implies_x T) := by
  refine T.f_implies.F.ok sc_implies (fun vs H Q E h => ?_) (fun cdv A outer s H vs Q E hr h => ?_)
  · obtain ⟨kv, rv, sv, b, b1, rfl, _⟩ := h
    rfl
  obtain ⟨kv, rv, sv, b, b1, rfl, hk, k⟩ := h
  refine ⟨(tRet (tOp r_isN (tCall (sp_parting_x T) [] E (tCons (tVar 0) (tCons (tVar 1) (tCons (tVar 2) tNil)))) (tC .non))),
    (pss_one (ps_ret (pe_cmpR op_isN (pe_call (ok_parting_x T) (hr.mono (by decide)) (by rfl) T.f_parting.g T.f_parting.F.kp T.f_parting.b .nil (passU (takes_of rfl rfl rfl rfl)) (pa_cons (pv 0) (pa_cons (pv 1) (pa_cons (pv 2) pa_nil)))) pe_non (nomark _)))), ?_⟩
  walk_at "gg"
  exact ⟨_, _, _, b, b1, rfl, hk, k⟩
theorem ok_is_argument_d (T : Txt w K mg) : FnOk P w K mg base CX0 7 T.f_is_argument.f T.f_is_argument.fd ["library", "zone", "word", "value"] (sp_is_argument_d K) := by
  refine T.f_is_argument.F.ok sc_is_argument (fun vs H Q E h => ?_) (fun cdv A outer s H vs Q E hr h => ?_)
  · obtain ⟨wv, zv, v, y, z, word, d, rfl, _⟩ := h
    rfl
  obtain ⟨wv, zv, v, y, z, word, d, rfl, hword, hwv, hv, ho, dv, k⟩ := h
  refine ⟨(tSeq (tIfS (tTest (tOp rEq (tVar 2) (tC (.str "instant")))) (tRet (tCall (sp_is_instant_d K) [] E0 (tCons (tVar 3) tNil))) tNext) (tSeq (tIfS (tTest (tOp rEq (tVar 2) (tC (.str "reading")))) (tRet (tCall (sp_is_reading_d K) [] E0 (tCons (tVar 3) tNil))) tNext) (tSeq (tIfS (tTest (tOp rEq (tVar 2) (tC (.str "time")))) (tRet (tCall (sp_is_time_d K) [] E0 (tCons (tVar 0) (tCons (tVar 1) (tCons (tVar 3) tNil))))) tNext) (tRet (tCall (sp_is_between_d K) [] E0 (tCons (tVar 3) (tCons (tUn (rU fun i => .int (-i)) (tC (.int 4000))) (tCons (tC (.int 4000)) tNil)))))))),
    PSs.nox (pss_cons (ps_if (pt_cmpR op_eq (pv 2) pe_str (nomark _)) (pss_one (ps_ret (pe_call (ok_is_instant_d T) (hr.mono (by decide)) (by rfl) T.f_is_instant.g T.f_is_instant.F.kp T.f_is_instant.b .nil pass0 (pa_cons (pv 3) pa_nil)))) pss_nil) (pss_cons (ps_if (pt_cmpR op_eq (pv 2) pe_str (nomark _)) (pss_one (ps_ret (pe_call (ok_is_reading_d T) (hr.mono (by decide)) (by rfl) T.f_is_reading.g T.f_is_reading.F.kp T.f_is_reading.b .nil pass0 (pa_cons (pv 3) pa_nil)))) pss_nil) (pss_cons (ps_if (pt_cmpR op_eq (pv 2) pe_str (nomark _)) (pss_one (ps_ret (pe_call (ok_is_time_d T) (hr.mono (by decide)) (by rfl) T.f_is_time.g T.f_is_time.F.kp T.f_is_time.b .nil pass0 (pa_cons (pv 0) (pa_cons (pv 1) (pa_cons (pv 3) pa_nil)))))) pss_nil) (pss_one (ps_ret (pe_call (ok_is_between_d T) (hr.mono (by decide)) (by rfl) T.f_is_between.g T.f_is_between.F.kp T.f_is_between.b .nil pass0 (pa_cons (pv 3) (pa_cons (pe_un un_neg (pe_glob (by rfl) T.c_MOST_DURATION_OF_RULES ⟨_, rfl⟩)) (pa_cons (pe_glob (by rfl) T.c_MOST_DURATION_OF_RULES ⟨_, rfl⟩) pa_nil))))))))), ?_⟩
  rcases hword with rfl | rfl | rfl | rfl
  · walk_at "qq"
    exact ⟨_, d, rfl, dv, k _ (Evl.Ex.refl _)⟩
  · walk_at "qq"
    exact ⟨_, d, rfl, dv, k _ (Evl.Ex.refl _)⟩
  · walk_at "qq"
    exact ⟨_, _, _, y, z, d, rfl, hwv, hv, ho, dv, k⟩
  · walk_at "qq"
    exact ⟨_, d, _, _, rfl, dv, k _ (Evl.Ex.refl _)⟩
theorem ok_are_arguments_d (T : Txt w K mg) : FnOk P w K mg base CX0 8 T.f_are_arguments.f T.f_are_arguments.fd ["library", "zone", "words", "value"] (sp_are_arguments_d K) := by
  refine T.f_are_arguments.F.ok sc_are_arguments (fun vs H Q E h => ?_) (fun cdv A outer s H vs Q E hr h => ?_)
  · obtain ⟨wv, zv, v, y, z, r, a, d, rfl, _⟩ := h
    rfl
  obtain ⟨wv, zv, v, y, z, r, a, d, rfl, hw, hv, ho, ha, dv, k⟩ := h
  have l3 := shape_few r
  refine ⟨(tSeq (tIfS (tNot (tB (tCall (sp_is_tuple_of_d K) [] E0 (tCons (tCB (Evl.rLenS K) (tCons (tVar 2) tNil)) (tCons (tVar 3) tNil))))) (tRet (tC (.bl false))) tNext) (tRet (tCB (rAll K) (tCons (tLc (RZ.iZipA K (tCons (tVar 2) (tCons (tVar 3) tNil))) (gTup K 2 (gCons (gName 4) (gCons (gName 5) gNil))) tYes (tCall (sp_is_argument_d K) [] E0 (tCons (tVar 0) (tCons (tVar 1) (tCons (tVar 4) (tCons (tVar 5) tNil))))) [4, 5]) tNil)))),
    PSs.nox (pss_cons (ps_if (pt_not (pt_val (pe_call (ok_is_tuple_of_d T) (hr.mono (by decide)) (by rfl) T.f_is_tuple_of.g T.f_is_tuple_of.F.kp T.f_is_tuple_of.b .nil pass0 (pa_cons (pe_callB call_len_seq (by rfl) T.z_len (by decide +kernel) (pa_cons (pv 2) pa_nil)) (pa_cons (pv 3) pa_nil))))) (pss_one (ps_ret pe_bl)) pss_nil) (pss_one (ps_ret (pe_callB (cr_all rfl) (by rfl) T.z_all (by decide +kernel) (pa_cons (pe_lc (own := [("word", 4), ("item", 5)]) rfl sc_are_arguments.nd (RZ.pi_zipA (by rfl) T.z_zip (pa_cons (pv 2) (pa_cons (pv 3) pa_nil))) (blkOk_by (own := [("word", 4), ("item", 5)]) (N := ["library", "zone", "words", "value", "word", "item"]) (sc := defScope s_are_arguments) (by decide +kernel)) (fun _ _ _ _ _ => (pg_tup rfl (pgs_cons (pg_name (i := 4) sc_are_arguments.nd rfl (Or.inl rfl)) (pgs_cons (pg_name (i := 5) sc_are_arguments.nd rfl (Or.inl rfl)) pgs_nil)))) (fun _ _ _ _ _ => pts_nil) (fun _ _ _ _ _ => (pe_call (ok_is_argument_d T) (hr.mono (by decide)) (by rfl) T.f_is_argument.g T.f_is_argument.F.kp T.f_is_argument.b .nil pass0 (pa_cons (pv 0) (pa_cons (pv 1) (pa_cons (pv 4) (pa_cons (pv 5) pa_nil))))))) pa_nil))))), ?_⟩
  walk_at "qq"
  refine g_lenT ha ?_
  walk_at "qq"
  refine ⟨_, _, d, rfl, dv, ?_⟩
  rw [List.length_map]
  cases c : tupN d ((shapeR r).length : Int) with
  | false =>
    rw [argsD_not c] at k
    walk_at "qq"
    exact k _ (Evl.Ex.refl _)
  | true =>
    cases dv with
    | tup hp lp ih =>
      rename_i p xs ds
      have l1 : ds.length = (shapeR r).length := by
        have q : (ds.length : Int) = ((shapeR r).length : Int) := of_decide_eq_true c
        omega
      have ek : argsD y z (shapeR r) (.tuple ds) = allArgs y z (shapeR r) ds := by
        show (decide (ds.length = (shapeR r).length) && _) = _
        rw [decide_eq_true l1, Bool.true_and]
      walk_at "qq"
      refine g_lcZipV rfl rfl ha hp ?_
      refine g_lcZ ha hp (by rw [List.length_map, lp, l1]) (by rw [List.length_map]; omega) (fun i => .bl (argAt y z (shapeR r) ds i)) ?_ ?_ mono_two (fun _ _ _ _ m h => m _ _ h)
      · intro i x v T' H1 hx hy e1 hT S hS
        rw [List.getElem?_map] at hx
        obtain ⟨word, hword, rfl⟩ := Option.map_eq_some_iff.mp hx
        have li : i < ds.length := by
          have := (List.getElem?_eq_some_iff.mp hy).1
          omega
        have hd := List.getElem?_eq_getElem li
        have e : argAt y z (shapeR r) ds i = isArgD y z word ds[i] := by
          unfold argAt
          rw [hword, hd]
        walk_at "gg"
        refine ⟨rfl, ?_⟩
        walk_at "gg"
        refine ⟨_, _, _, y, z, word, ds[i], rfl, shape_word r word (List.mem_of_getElem? hword), hw.tr (TrT.of e1), hv.tr (TrT.of e1), ho, (ih i _ _ hy hd).ex e1, fun H3 e3 => ?_⟩
        rw [← e]
        exact hS H3 e3
      · intro D H1 hD e1 h1
        walk_at "qq"
        refine g_allL (bs := (List.range ((shapeR r).map V.str).length).map (argAt y z (shapeR r) ds)) (by rw [h1, List.map_map]; rfl) ?_
        rw [List.length_map, allArgs_range l1, ← ek]
        exact k _ e1
    | _ => cases c
theorem ok_holds_for_x (T : Txt w K mg) : FnOk P w K mg base (L2.CX P w) 9 T.f_holds_for.f T.f_holds_for.fd ["library", "zone", "rule", "arguments"] (sp_holds_for_x T) := by
  refine T.f_holds_for.F.ok sc_holds_for (fun vs H Q E h => ?_) (fun cdv A outer s H vs Q E hr h => ?_)
  · obtain ⟨wv, zv, rv, v, y, z, rfl, _⟩ := h
    rfl
  obtain ⟨wv, zv, rv, v, y, z, rfl, hw, hv, ho, k⟩ := h
  refine ⟨(tSeq (tDrop (tCall (sp_check_library K) [] E0 (tCons (tVar 0) tNil))) (tSeq (tDrop (tCall (sp_check_zone K) [] E0 (tCons (tVar 1) tNil))) (tSeq (tDrop (tCall (sp_check_rule_x T) [] E (tCons (tVar 2) tNil))) (tSeq (tIfS (tNot (tB (tCall (sp_are_arguments_d K) [] E0 (tCons (tVar 0) (tCons (tVar 1) (tCons (tOp (rIxD K w) (tC (.ref T.a_SHAPES)) (tVar 2)) (tCons (tVar 3) tNil))))))) (fun _ σ H => E (.ref T.e_BadArguments) none H) tNext) tNever)))),
    (pss_cons (ps_expr (pe_call (ok_check_library T) (hr.mono (by decide)) (by rfl) T.f_check_library.g T.f_check_library.F.kp T.f_check_library.b .nil pass0 (pa_cons (pv 0) pa_nil))) (pss_cons (ps_expr (pe_call (ok_check_zone T) (hr.mono (by decide)) (by rfl) T.f_check_zone.g T.f_check_zone.F.kp T.f_check_zone.b .nil pass0 (pa_cons (pv 1) pa_nil))) (pss_cons (ps_expr (pe_call (ok_check_rule_x T) (hr.mono (by decide)) (by rfl) T.f_check_rule.g T.f_check_rule.F.kp T.f_check_rule.b .nil (passU (takes_of rfl rfl rfl rfl)) (pa_cons (pv 2) pa_nil))) (pss_cons (ps_if (pt_not (pt_val (pe_call (ok_are_arguments_d T) (hr.mono (by decide)) (by rfl) T.f_are_arguments.g T.f_are_arguments.F.kp T.f_are_arguments.b .nil pass0 (pa_cons (pv 0) (pa_cons (pv 1) (pa_cons (pe_ix ix_kdict (pe_glob (by rfl) T.c_SHAPES rfl) (pv 2) (fun _ _ => rfl)) (pa_cons (pv 3) pa_nil))))))) (pss_one (ps_err rfl (takes_of rfl rfl rfl rfl) T.g_BadArguments T.x_BadArguments rfl)) pss_nil) (pss_one ps_never))))), ?_⟩
  walk_at "qq"
  refine ⟨_, y, rfl, hw, ?_⟩
  walk_at "qq"
  refine ⟨_, z, rfl, hv, ho, ?_⟩
  walk_at "qq"
  rcases k with ⟨hr, k⟩ | ⟨r, d, rfl, dv, c, k⟩
  · exact ⟨_, false, rfl, hr, (fun z => nomatch z), fun _ => k⟩
  · refine ⟨_, true, rfl, .inl ⟨rfl, r, rfl⟩, fun _ => ?_, fun z => nomatch z⟩
    obtain ⟨a, ka, ha⟩ := shapesK T r
    walk_at "qq"
    refine g_ixD ka ?_
    walk_at "qq"
    refine ⟨_, _, _, y, z, r, a, d, rfl, hw, hv, ho, ha _, dv, fun H1 e1 => ?_⟩
    rw [c]
    walk_at "qq"
    exact k _ e1
end
section
open LamX
local macro_rules | `(tactic| walk_at "m") => `(tactic| first
  | with_reducible refine g_m1 ?_
  | with_reducible refine g_isS ?_
  | with_reducible refine g_lcStr ?_
  | with_reducible refine g_join ?_
  | with_reducible refine g_js ?_
  | with_reducible refine g_jsN ?_
  | with_reducible refine g_fmt ?_
  | with_reducible refine g_callLam ?_
  | with_reducible refine g_revT ?_)

theorem g_slA {K : PySem.W.Frag} {a : Addr} {xs : List V} {k : Nat} {H : Hp} {Q : VK} (q : SqT K H a xs) (k2 : k ≤ xs.length) (h : ∀ p H', Ex H H' → SqT K H' p (xs.take k) → Q (.ref p) H') : rSlA K (.ref a) none (some (k : Int)) H Q := by
  have e1 : HT.sIx xs.length xs.length (some (k : Int)) = k := by
    rw [HT.sIx_nat]
    omega
  have e2 : HT.sIx xs.length 0 none = 0 := HT.sIx_none _ _
  refine ⟨a, xs, rfl, q, fun w => ?_, fun _ p hp => ?_⟩
  · rw [e1] at w
    refine h a H (Evl.Ex.refl _) ?_
    rw [w.2, List.take_length]
    exact q
  · have c : cutV xs none (some (k : Int)) = xs.take k := by
      unfold cutV
      rw [e1, e2]
      rfl
    rw [c]
    exact h p _ (Evl.Ex.new hp) (SqT.of upd_same)
/-! ### written data -/
def EvD (K : PySem.W.Frag) (σ : L2.St) (H0 : Hp) (te : TE) (d : PyData) : Prop := ∀ H (Q : VK), Ex H0 H → (∀ v H', Ex H H' → DaV K H' v d → Q v H') → te σ H Q
def EvDs (K : PySem.W.Frag) (σ : L2.St) (H0 : Hp) (ta : TA) (ds : List PyData) : Prop := ∀ H (R : List V → Hp → Prop), Ex H0 H → (∀ xs H', Ex H H' → Paired (DaV K H') xs ds → R xs H') → ta σ H R
/-- a tuple of flat values -/
def EvT (K : PySem.W.Frag) (σ : L2.St) (H0 : Hp) (te : TE) (xs : List V) : Prop := ∀ H (Q : VK), Ex H0 H → (∀ p H', Ex H H' → SqT K H' p xs → Q (.ref p) H') → te σ H Q
def dV : V → PyData
  | .bl b => .bool b
  | .int i => .int i
  | .str s => .str s
  | _ => .none
theorem dav_dV {K : PySem.W.Frag} {H : Hp} {x : V} (h : flatV x = true) : DaV K H x (dV x) := by
  cases x with
  | bl b => exact .bl b
  | int i => exact .int i
  | str s => exact .str s
  | non => exact .non
  | _ => cases h
section
variable {K : PySem.W.Frag} {σ : L2.St} {H0 : Hp} {te : TE} {ta : TA} {d : PyData} {ds : List PyData}
theorem evD_non : EvD K σ H0 (tC .non) .none := fun H Q e k => k _ _ (Evl.Ex.refl _) .non
theorem evD_int {n : Int} : EvD K σ H0 (tC (.int n)) (.int n) := fun H Q e k => k _ _ (Evl.Ex.refl _) (.int _)
theorem evD_bl {n : Bool} : EvD K σ H0 (tC (.bl n)) (.bool n) := fun H Q e k => k _ _ (Evl.Ex.refl _) (.bl _)
theorem evD_str {n : Str} : EvD K σ H0 (tC (.str n)) (.str n) := fun H Q e k => k _ _ (Evl.Ex.refl _) (.str _)
theorem evD_neg {n : Int} : EvD K σ H0 (tUn (rU fun i => .int (-i)) (tC (.int n))) (.int (-n)) := fun H Q e k => ⟨n, rfl, k _ _ (Evl.Ex.refl _) (.int _)⟩
theorem evDs_nil : EvDs K σ H0 tNil [] := fun H R e k => k [] H (Evl.Ex.refl _) .nil
theorem evDs_cons (h : EvD K σ H0 te d) (h2 : EvDs K σ H0 ta ds) : EvDs K σ H0 (tCons te ta) (d :: ds) := fun H R e0 k =>
  h H _ e0 fun v H1 e1 hv => h2 H1 _ (e0.trans e1) fun xs H2 e2 hx => k _ _ (e1.trans e2) (.cons (hv.ex e2) hx)
theorem pd_dav {H : Hp} {xs : List V} {ds : List PyData} (h : Paired (DaV K H) xs ds) (i : Nat) (x : V) (d : PyData) (hx : xs[i]? = some x) (hd : ds[i]? = some d) : DaV K H x d := by
  obtain ⟨d', h1, h2⟩ := pd_get h hx
  rw [hd] at h1
  cases h1
  exact h2
theorem evD_tup (h : EvDs K σ H0 ta ds) (few : ds.length ≤ 1000) : EvD K σ H0 (tTup ta) (.tuple ds) := fun H Q e0 k =>
  h H _ e0 fun xs H1 e1 hx => g_newT (by rw [Paired.length hx]; omega) fun p H2 n2 e2 h2 => k _ _ (e1.trans e2) (.tup (SqT.of h2) (Paired.length hx) (pd_dav (L2.Paired.mapP hx fun _ _ q => q.ex e2)))
theorem evD_lst (h : EvDs K σ H0 ta ds) (few : ds.length ≤ 1000) : EvD K σ H0 (tLst ta) (.list ds) := fun H Q e0 k =>
  h H _ e0 fun xs H1 e1 hx => g_newL (by rw [Paired.length hx]; omega) fun p H2 n2 e2 h2 => k _ _ (e1.trans e2) (.lst h2)
/-- a list of data, known item by item -/
theorem g_dlst {H : Hp} {Q : VK} (h : EvDs K σ H ta ds) (few : ds.length ≤ 1000) (k : ∀ l xs H', H l = none → Ex H H' → H' l = some (.lst xs) → Paired (DaV K H') xs ds → Q (.ref l) H') : tLst ta σ H Q :=
  h H _ (Evl.Ex.refl _) fun xs H1 e1 hx => g_newL (by rw [Paired.length hx]; omega) fun p H2 n2 e2 h2 => k p xs H2 (Evl.fresh_back e1 n2) (e1.trans e2) h2 (L2.Paired.mapP hx fun _ _ q => q.ex e2)
theorem pd_dV {H : Hp} : ∀ {xs : List V}, xs.all flatV = true → Paired (DaV K H) xs (xs.map dV)
  | [], _ => .nil
  | x :: r, h => by
    rw [List.all_cons, Bool.and_eq_true] at h
    exact .cons (dav_dV h.1) (pd_dV h.2)
theorem dav_T {H : Hp} {p : Addr} {xs : List V} (hf : xs.all flatV = true) (q : SqT K H p xs) : DaV K H (.ref p) (.tuple (xs.map dV)) := .tup q (by rw [List.length_map]) (pd_dav (pd_dV hf))
theorem evD_T {xs : List V} (h : EvT K σ H0 te xs) (hf : xs.all flatV = true) (e : .tuple (xs.map dV) = d) : EvD K σ H0 te d := fun H Q e0 k => by
  rw [← e] at k
  exact h H _ e0 fun p H1 e1 q => k _ _ e1 (dav_T hf q)
variable {a : Addr} {xs ys : List V}
theorem evT_var {i : Nat} (e : σ[i]? = some (some (.ref a))) (q : SqT K H0 a xs) : EvT K σ H0 (tVar i) xs := fun H Q e0 k => g_var e (k _ _ (Evl.Ex.refl _) (Evl.ex_t e0 q))
theorem evT_slA (n : Nat) {k : Int} (hk : k = (n : Int)) (h : EvT K σ H0 te xs) (k2 : n ≤ xs.length) (e : xs.take n = ys) : EvT K σ H0 (tSl (rSlA K) te tNoPart (tPart (tC (.int k)))) ys := fun H Q e0 kk => by
  subst hk e
  refine h H _ e0 fun p H1 e1 q => ⟨_, rfl, g_slA q k2 fun p2 H2 e2 q2 => kk _ _ (e1.trans e2) q2⟩
theorem evT_slT (n : Nat) {k : Int} (hk : k = (n : Int)) (h : EvT K σ H0 te xs) (k1 : 0 < n) (k2 : n ≤ xs.length) (e : xs.drop n = ys) : EvT K σ H0 (tSl (rSlT K) te (tPart (tC (.int k))) tNoPart) ys := fun H Q e0 kk => by
  subst hk e
  refine h H _ e0 fun p H1 e1 q => ⟨_, rfl, g_slT q k1 k2 rfl fun p2 H2 n2 e2 q2 => kk _ _ (e1.trans e2) (SqT.of q2)⟩
theorem evT_cat {tb : TE} {zs : List V} (h : EvT K σ H0 te xs) (h2 : EvT K σ H0 tb ys) (ne : xs ≠ []) (ne2 : ys ≠ []) (few : xs.length + ys.length ≤ 1000) (e : xs ++ ys = zs) : EvT K σ H0 (tOp (rCatT K) te tb) zs := fun H Q e0 kk => by
  subst e
  have sz : 1000 ≤ sizeLine := by decide
  refine h H _ e0 fun p H1 e1 q => h2 H1 _ (e0.trans e1) fun p2 H2 e2 q2 => ⟨p, p2, _, _, rfl, rfl, Evl.ex_t e2 q, q2, ne, by omega, fun z => absurd z ne2, fun _ p3 hp => ?_⟩
  exact kk _ _ ((e1.trans e2).trans (Evl.Ex.new hp)) (SqT.of upd_same)
theorem evT_lit (h : ∀ H (R : List V → Hp → Prop), R xs H → ta σ H R) (few : xs.length ≤ 1000) : EvT K σ H0 (tTup ta) xs := fun H Q e0 k =>
  h H _ (g_newT (by omega) fun p H2 n2 e2 h2 => k _ _ e2 (SqT.of h2))
theorem evT_rev (h : EvT K σ H0 te xs) (e : xs.reverse = ys) : EvT K σ H0 (tRevT K te) ys := fun H Q e0 k => by
  subst e
  exact h H _ e0 fun p H1 e1 q => ⟨_, _, rfl, q, fun p2 hp => k _ _ (e1.trans (Evl.Ex.new hp)) (SqT.of upd_same)⟩
theorem evD_listOf (h : EvT K σ H0 te xs) : EvD K σ H0 (tCB (Evl.rListS K) (tCons te tNil)) (.list ds) := fun H Q e0 k =>
  h H _ e0 fun p H1 e1 q => g_listOfT q fun p2 H2 n2 e2 h2 => k _ _ (e1.trans e2) (.lst h2)
end
theorem DaV.extN {K : PySem.W.Frag} {H H' : Hp} {v : V} {d : PyData} (e : ExtN H H') (h : DaV K H v d) : DaV K H' v d := by
  induction h with
  | non => exact .non
  | bl b => exact .bl b
  | int i => exact .int i
  | str x => exact .str x
  | lst q => exact .lst (e _ _ q fun _ z => nomatch z)
  | tup q l _ ih => exact .tup (TrT.extN e _ _ q) l ih
theorem ExtN.mut {H H' : Hp} {l : Addr} {o : HO} (e : ExtN H H') (n : ∀ x o, H x = some o → (∀ ps, o ≠ .tbl ps) → l ≠ x) : ExtN H (L2.upd H' l o) := fun x u hx hn => by
  rw [upd_ne (Ne.symm (n x u hx hn))]
  exact e x u hx hn
/-! ### lists of lambdas that grow -/
section
variable {TA' : List (Addr × Str)} {q : Str} {cells : List (Str × Addr)} {ta : TA} {Ls Ls2 : List (LW × Option Int)} {σ : L2.St} {Hb H : Hp} {Q : VK} {l : Addr} {fs : List V}
theorem g_addLams (hl : H l = some (.lst fs)) (t : Tabs TA' H) (p : Paired (LamsAt q cells H) fs Ls) (h : EvLs TA' q cells ta Ls2) (few : Ls.length + Ls2.length ≤ 1000)
    (k : ∀ l' fs' H', ExtN H H' → (∀ x o, H x = some o → (∀ ps, o ≠ .tbl ps) → l' ≠ x) → Tabs TA' H' → H' l' = some (.lst fs') → Paired (LamsAt q cells H') fs' (Ls ++ Ls2) → Q (.ref l') H') : tLst ta σ H fun y H' => rCat (.ref l) y H' Q := by
  refine g_lams h t (by omega) fun l2 fs2 H2 e2 nf t2 h2 p2 => ?_
  refine g_cat (e2 _ _ hl fun _ z => nomatch z) h2 (by rw [Paired.length p, Paired.length p2]; omega) fun l3 H3 n3 e3 h3 => ?_
  exact k l3 _ H3 (e2.trans (ExtN.of e3)) (fun x o hx hn => (ne_of_none (e2 x o hx hn) n3).symm) (t2.ext e3) h3 (pd_app (L2.Paired.mapP p fun _ _ z => (z.extN e2).ex e3) (L2.Paired.mapP p2 fun _ _ z => z.ex e3))
theorem g_appLam {L : LW} {n : Option Int} (hl : H l = some (.lst fs)) (t : Tabs TA' H) (p : Paired (LamsAt q cells H) fs Ls) (few : Ls.length ≤ 1000) (eb : ExtN Hb H) (nf : ∀ x o, Hb x = some o → (∀ ps, o ≠ .tbl ps) → l ≠ x)
    (k : ∀ fs' H', ExtN Hb H' → Tabs TA' H' → H' l = some (.lst fs') → Paired (LamsAt q cells H') fs' (Ls ++ [(L, n)]) → Q .non H') :
    tCons (tLamV TA' q L (cloFrom cells L.scope.names []) n) tNil σ H fun ys H' => rAppend (.ref l) ys H' Q := by
  refine ⟨t, fun f H1 e1 t1 nf1 la => ?_⟩
  have h1 := e1 _ _ hl fun _ z => nomatch z
  refine g_app h1 (by rw [Paired.length p]; omega) fun H2 e2 => ?_
  subst e2
  exact k _ _ (ExtN.mut (eb.trans e1) nf) (tabs_keep t1 h1 Fr.upd) upd_same (pd_app (L2.Paired.mapP p fun _ _ z => (z.extN e1).upd h1) (.cons (LamsAt.upd h1 ⟨f, rfl, la⟩) .nil))
end
theorem DaV.fr {K : PySem.W.Frag} {H H' : Hp} {r : Addr} {xs ys : List V} {v : V} {d : PyData} (h : DaV K H v d) (hr : H r = some (.lst xs)) (hr' : H' r = some (.lst ys)) (e : Fr r H H') : DaV K H' v d := by
  induction h with
  | non => exact .non
  | bl b => exact .bl b
  | int i => exact .int i
  | str x => exact .str x
  | @lst a zs ds q =>
    by_cases c : a = r
    · subst c
      exact .lst hr'
    · exact .lst (e _ _ c q)
  | tup q l _ ih => exact .tup (TrT.fr hr e _ _ q) l ih
def nineD : List PyData := (irange 0 9).map fun k => .tuple [.int (12 * k), .int (k % 2 * -1 + 1)]
/-! ### the words of errors -/
def wordsW : List Str := ["zone", "instant", "reading", "library", "time", "duration", "rule", "arguments", "kind"]
structure WrC {w : World} {K : PySem.W.Frag} {mg : Str → Option Value} (T : Txt w K mg) (i : Nat) (C : Addr) : Prop where
  at_ : [T.e_BadZone, T.e_BadInstant, T.e_BadReading, T.e_BadLibrary, T.e_BadTime, T.e_BadDuration, T.e_BadRule, T.e_BadArguments, T.e_BadKind, T.e_BadRules][i]? = some C
  x : ErrC K C
  m : PySem.W.exmOne K (.ref C) (.ref T.e_TimeError) = some true
def TT_law_wrong {w : World} {K : PySem.W.Frag} {mg : Str → Option Value} (T : Txt w K mg) : (Hp → Prop) → (XK → Hp → VK → Prop) → Hp → VK → Prop := fun LA tl H Q => LA H ∧
  ∀ (E : XK) (Qn : VK), (∀ (i : Nat) (C : Addr) (word : Str), WrC T i C → wordsW[i]? = some word → ∀ H', (∀ H'', Ex H' H'' → Q (.str word) H'') → E (.ref C) none H') → tl E H Qn
theorem wr_facts {i : Nat} (h : i < 9) : let ys : List V := [.bl (decide (i = 0)), .bl (decide (i = 1)), .bl (decide (i = 2)), .bl (decide (i = 3)), .bl (decide (i = 4)), .bl (decide (i = 5)), .bl (decide (i = 6)), .bl (decide (i = 7)), .bl (decide (i = 8))]
    ys.countP (fun z => eqV z (.bl true)) = 1 ∧ ys[i]? = some (.bl true) ∧ (∀ k, k < i → ∀ z, ys[k]? = some z → eqV z (.bl true) = false) := by
  have q : ∀ i, i < 9 → (let ys : List V := [.bl (decide (i = 0)), .bl (decide (i = 1)), .bl (decide (i = 2)), .bl (decide (i = 3)), .bl (decide (i = 4)), .bl (decide (i = 5)), .bl (decide (i = 6)), .bl (decide (i = 7)), .bl (decide (i = 8))]
    (decide (ys.countP (fun z => eqV z (.bl true)) = 1) && ((ys[i]? == some (.bl true)) && (List.range i).all fun k => match ys[k]? with | some z => !eqV z (.bl true) | none => true)) = true) := by decide +kernel
  have q := q i h
  simp only [Bool.and_eq_true, decide_eq_true_eq, beq_iff_eq, List.all_eq_true, List.mem_range] at q
  refine ⟨q.1, q.2.1, fun k hk z hz => ?_⟩
  have := q.2.2 k hk
  rw [hz] at this
  simpa using this
/-- each of the lambdas ends in the error, its heap in G -/
def AllG (G : Hp → Prop) (C : Addr) (σ : L2.St) (H : Hp) (LL : List (LW × Option Int × (XK → TE))) : Prop := ∀ p ∈ LL, ∀ (E : XK) (Qn : VK), (∀ H', G H' → E (.ref C) none H') → p.2.2 E σ H Qn
section
variable {G : Hp → Prop} {C : Addr} {σ : L2.St} {H : Hp}
theorem ag_nil : AllG G C σ H [] := fun _ h => nomatch h
theorem ag_cons {L : LW} {n : Option Int} {t : XK → TE} {LL : List (LW × Option Int × (XK → TE))} (h : ∀ (E : XK) (Qn : VK), (∀ H', G H' → E (.ref C) none H') → t E σ H Qn) (h2 : AllG G C σ H LL) : AllG G C σ H ((L, n, t) :: LL) := fun p hp => by
  rcases List.mem_cons.mp hp with e | e
  · rw [e]; exact h
  · exact h2 p e
end
theorem wr_callG {w : World} {K : PySem.W.Frag} {mg : Str → Option Value} (T : Txt w K mg) {q : Str} {cells : List (Str × Addr)} {LL : List (LW × Option Int × (XK → TE))} {Ls : List (LW × Option Int)} {fs : List V} {σ : L2.St} {H : Hp} {Q : VK} {m i : Nat} {v : V} {C : Addr} {word : Str} (G : Hp → Prop)
    (p : Paired (LamsAt q cells H) fs Ls) (hx : fs[m]? = some v) (hC : WrC T i C) (hw : wordsW[i]? = some word)
    (hLL : Ls = LL.map fun p => (p.1, p.2.1)) (hG : ∀ H' H'', G H' → Ex H' H'' → G H'') (hall : AllG G C σ H LL) (k : ∀ H', G H' → Q (.str word) H') :
    ∃ (j : Nat) (f : Addr) (L : LW) (n : Option Int) (t : XK → TE), LL[j]? = some (L, n, t) ∧ v = .ref f ∧ LamAt H f q L (cloFrom cells L.scope.names []) n ∧
      TT_law_wrong T (fun H' => LamAt H' f q L (cloFrom cells L.scope.names []) n) (fun E H' Q' => t E σ H' Q') H Q := by
  obtain ⟨⟨L, n⟩, hL, f, rfl, la⟩ := pd_get p hx
  rw [hLL, List.getElem?_map] at hL
  cases ht : LL[m]? with
  | none => rw [ht] at hL; cases hL
  | some x =>
    rw [ht] at hL
    obtain ⟨L', n', t⟩ := x
    cases hL
    exact ⟨m, f, L', n', t, ht, rfl, la, la, fun E Qn hE => hall _ (List.mem_of_getElem? ht) E Qn fun H' g => hE i C word hC hw H' fun H'' e => k H'' (hG _ _ g e)⟩
theorem gives_law_wrong {X : Cx} {kg : Nat} (T : Txt X.w X.K X.mg) (cdv : Value) : GivesV X ["work", "e", "known", "words"] "_law_wrong" (defScope s_law_wrong) T.f_law_wrong.f cdv (defBody s_law_wrong) "work" (TT_law_wrong T) kg := by
  intro f LA s H Q tl hr act h
  refine ⟨tSeq (fun D σ H => (fun W D σ H => σ[0]? = some (some (.ref f)) ∧ LA H ∧ tl (WE W σ) H (fun _ H1 => D.nx σ H1)) (wAs X.K (.ref T.e_TimeError) 1 (fun a cls d => (tSeq (tAsg (tLst (tCons (tCB (rIsX X.K a cls d) (tCons (tVar 1) (tCons (tC (.ref T.e_BadZone)) tNil))) (tCons (tCB (rIsX X.K a cls d) (tCons (tVar 1) (tCons (tC (.ref T.e_BadInstant)) tNil))) (tCons (tCB (rIsX X.K a cls d) (tCons (tVar 1) (tCons (tC (.ref T.e_BadReading)) tNil))) (tCons (tCB (rIsX X.K a cls d) (tCons (tVar 1) (tCons (tC (.ref T.e_BadLibrary)) tNil))) (tCons (tCB (rIsX X.K a cls d) (tCons (tVar 1) (tCons (tC (.ref T.e_BadTime)) tNil))) tNil)))))) (gName 2)) (tSeq (tAsg (tOp rCat (tVar 2) (tLst (tCons (tCB (rIsX X.K a cls d) (tCons (tVar 1) (tCons (tC (.ref T.e_BadDuration)) tNil))) (tCons (tCB (rIsX X.K a cls d) (tCons (tVar 1) (tCons (tC (.ref T.e_BadRule)) tNil))) (tCons (tCB (rIsX X.K a cls d) (tCons (tVar 1) (tCons (tC (.ref T.e_BadArguments)) tNil))) (tCons (tCB (rIsX X.K a cls d) (tCons (tVar 1) (tCons (tC (.ref T.e_BadKind)) tNil))) tNil)))))) (gName 2)) (tSeq (tAsg (tLst (tCons (tC (.str "zone")) (tCons (tC (.str "instant")) (tCons (tC (.str "reading")) (tCons (tC (.str "library")) (tCons (tC (.str "time")) (tCons (tC (.str "duration")) (tCons (tC (.str "rule")) (tCons (tC (.str "arguments")) (tCons (tC (.str "kind")) tNil)))))))))) (gName 3)) (tRet (tIf (tTest (tOp rEq (tBM X.K "list" (rCntF X.K) (tVar 2) (tCons (tC (.bl true)) tNil)) (tC (.int 1)))) (tOp (rIxL X.K) (tVar 3) (tBM X.K "list" (rIndex X.K) (tVar 2) (tCons (tC (.bl true)) tNil))) (tC (.str "other")))))))) (fun _ _ _ _ => False) D) D σ H) (tRet (tC (.str ""))), (pss_cons (X := (cxOf C8.CX0 X.prog X.w X.K X.mg X.base ["work", "e", "known", "words"] "_law_wrong" (defScope s_law_wrong) T.f_law_wrong.f cdv X.A X.stack s H C8.E0).nox) (ps_try_as (X := (cxOf C8.CX0 X.prog X.w X.K X.mg X.base ["work", "e", "known", "words"] "_law_wrong" (defScope s_law_wrong) T.f_law_wrong.f cdv X.A X.stack s H C8.E0).nox) (x := "TimeError") (ts := fun a cls d => (tSeq (tAsg (tLst (tCons (tCB (rIsX X.K a cls d) (tCons (tVar 1) (tCons (tC (.ref T.e_BadZone)) tNil))) (tCons (tCB (rIsX X.K a cls d) (tCons (tVar 1) (tCons (tC (.ref T.e_BadInstant)) tNil))) (tCons (tCB (rIsX X.K a cls d) (tCons (tVar 1) (tCons (tC (.ref T.e_BadReading)) tNil))) (tCons (tCB (rIsX X.K a cls d) (tCons (tVar 1) (tCons (tC (.ref T.e_BadLibrary)) tNil))) (tCons (tCB (rIsX X.K a cls d) (tCons (tVar 1) (tCons (tC (.ref T.e_BadTime)) tNil))) tNil)))))) (gName 2)) (tSeq (tAsg (tOp rCat (tVar 2) (tLst (tCons (tCB (rIsX X.K a cls d) (tCons (tVar 1) (tCons (tC (.ref T.e_BadDuration)) tNil))) (tCons (tCB (rIsX X.K a cls d) (tCons (tVar 1) (tCons (tC (.ref T.e_BadRule)) tNil))) (tCons (tCB (rIsX X.K a cls d) (tCons (tVar 1) (tCons (tC (.ref T.e_BadArguments)) tNil))) (tCons (tCB (rIsX X.K a cls d) (tCons (tVar 1) (tCons (tC (.ref T.e_BadKind)) tNil))) tNil)))))) (gName 2)) (tSeq (tAsg (tLst (tCons (tC (.str "zone")) (tCons (tC (.str "instant")) (tCons (tC (.str "reading")) (tCons (tC (.str "library")) (tCons (tC (.str "time")) (tCons (tC (.str "duration")) (tCons (tC (.str "rule")) (tCons (tC (.str "arguments")) (tCons (tC (.str "kind")) tNil)))))))))) (gName 3)) (tRet (tIf (tTest (tOp rEq (tBM X.K "list" (rCntF X.K) (tVar 2) (tCons (tC (.bl true)) tNil)) (tC (.int 1)))) (tOp (rIxL X.K) (tVar 3) (tBM X.K "list" (rIndex X.K) (tVar 2) (tCons (tC (.bl true)) tNil))) (tC (.str "other")))))))) (tb := fun W D σ H => σ[0]? = some (some (.ref f)) ∧ LA H ∧ tl (WE W σ) H (fun _ H1 => D.nx σ H1)) rfl rfl sc_law_wrong.nd rfl rfl ⟨rfl, by decide, .inl T.g_TimeError⟩ L2.takes0
    (fun W pn xe tk _ => pss_one (ps_expr (act W pn xe _ _ tk))) (fun a oe cls d pn hz hf => (pss_cons (ps_set (i := 2) sc_law_wrong.nd rfl (Or.inl rfl) (pe_lst (pa_cons (pe_callB (call_isX hz hf) (by rfl) T.z_isinstance (by decide +kernel) (pa_cons (pv 1) (pa_cons (pe_glob (by rfl) T.g_BadZone rfl) pa_nil))) (pa_cons (pe_callB (call_isX hz hf) (by rfl) T.z_isinstance (by decide +kernel) (pa_cons (pv 1) (pa_cons (pe_glob (by rfl) T.g_BadInstant rfl) pa_nil))) (pa_cons (pe_callB (call_isX hz hf) (by rfl) T.z_isinstance (by decide +kernel) (pa_cons (pv 1) (pa_cons (pe_glob (by rfl) T.g_BadReading rfl) pa_nil))) (pa_cons (pe_callB (call_isX hz hf) (by rfl) T.z_isinstance (by decide +kernel) (pa_cons (pv 1) (pa_cons (pe_glob (by rfl) T.g_BadLibrary rfl) pa_nil))) (pa_cons (pe_callB (call_isX hz hf) (by rfl) T.z_isinstance (by decide +kernel) (pa_cons (pv 1) (pa_cons (pe_glob (by rfl) T.g_BadTime rfl) pa_nil))) pa_nil))))))) (pss_cons (ps_set (i := 2) sc_law_wrong.nd rfl (Or.inl rfl) (pe_op op_cat (pv 2) (pe_lst (pa_cons (pe_callB (call_isX hz hf) (by rfl) T.z_isinstance (by decide +kernel) (pa_cons (pv 1) (pa_cons (pe_glob (by rfl) T.g_BadDuration rfl) pa_nil))) (pa_cons (pe_callB (call_isX hz hf) (by rfl) T.z_isinstance (by decide +kernel) (pa_cons (pv 1) (pa_cons (pe_glob (by rfl) T.g_BadRule rfl) pa_nil))) (pa_cons (pe_callB (call_isX hz hf) (by rfl) T.z_isinstance (by decide +kernel) (pa_cons (pv 1) (pa_cons (pe_glob (by rfl) T.g_BadArguments rfl) pa_nil))) (pa_cons (pe_callB (call_isX hz hf) (by rfl) T.z_isinstance (by decide +kernel) (pa_cons (pv 1) (pa_cons (pe_glob (by rfl) T.g_BadKind rfl) pa_nil))) pa_nil))))))) (pss_cons (ps_set (i := 3) sc_law_wrong.nd rfl (Or.inl rfl) (pe_lst (pa_cons pe_str (pa_cons pe_str (pa_cons pe_str (pa_cons pe_str (pa_cons pe_str (pa_cons pe_str (pa_cons pe_str (pa_cons pe_str (pa_cons pe_str pa_nil))))))))))) (pss_one (ps_ret (pe_ifExp (pt_cmpR op_eq (pe_bm PySem.F.plainAttrs_list PySem.F.slot_list_count PySem.F.type_list_count mt_countF (pv 2) (pa_cons pe_bl pa_nil)) pe_int (nomark _)) (pe_ix ix_list (pv 3) (pe_bm PySem.F.plainAttrs_list PySem.F.slot_list_index PySem.F.type_list_index mt_index (pv 2) (pa_cons pe_bl pa_nil)) (fun _ _ => rfl)) pe_str)))))))) (pss_one (ps_ret pe_str))), ?_⟩

  refine ⟨rfl, h.1, h.2 _ _ (fun i C word hC hw H' q => ?_)⟩
  refine ⟨true, hC.m, fun _ a ha => ?_, fun z => nomatch z⟩
  walk_at "gg"
  refine ⟨C, _, decide (i = 0), rfl, rfl, hC.x.e, rfl, T.kits.at hC.at_ rfl, ?_⟩
  walk_at "gg"
  refine ⟨C, _, decide (i = 1), rfl, rfl, hC.x.e, rfl, T.kits.at hC.at_ rfl, ?_⟩
  walk_at "gg"
  refine ⟨C, _, decide (i = 2), rfl, rfl, hC.x.e, rfl, T.kits.at hC.at_ rfl, ?_⟩
  walk_at "gg"
  refine ⟨C, _, decide (i = 3), rfl, rfl, hC.x.e, rfl, T.kits.at hC.at_ rfl, ?_⟩
  walk_at "gg"
  refine ⟨C, _, decide (i = 4), rfl, rfl, hC.x.e, rfl, T.kits.at hC.at_ rfl, ?_⟩
  walk_at "gg"
  refine g_newL (by simp) fun l1 H1 n1 e1 h1 => ?_
  walk_at "gg"
  refine ⟨C, _, decide (i = 5), rfl, rfl, hC.x.e, rfl, T.kits.at hC.at_ rfl, ?_⟩
  walk_at "gg"
  refine ⟨C, _, decide (i = 6), rfl, rfl, hC.x.e, rfl, T.kits.at hC.at_ rfl, ?_⟩
  walk_at "gg"
  refine ⟨C, _, decide (i = 7), rfl, rfl, hC.x.e, rfl, T.kits.at hC.at_ rfl, ?_⟩
  walk_at "gg"
  refine ⟨C, _, decide (i = 8), rfl, rfl, hC.x.e, rfl, T.kits.at hC.at_ rfl, ?_⟩
  walk_at "gg"
  refine g_newL (by simp) fun l2 H2 n2 e2 h2 => ?_
  walk_at "gg"
  refine g_cat (e2 _ _ h1) h2 (by simp) fun l3 H3 n3 e3 h3 => ?_
  walk_at "gg"
  refine g_newL (by simp) fun l4 H4 n4 e4 h4 => ?_
  walk_at "gg"
  have hi9 : i < 9 := (List.getElem?_eq_some_iff.mp hw).1
  have f := wr_facts hi9
  have h3' := e4 _ _ h3
  have fl : ([V.bl (decide (i = 0)), V.bl (decide (i = 1)), V.bl (decide (i = 2)), V.bl (decide (i = 3)), V.bl (decide (i = 4)), V.bl (decide (i = 5)), V.bl (decide (i = 6)), V.bl (decide (i = 7)), V.bl (decide (i = 8))]).all flatV = true := rfl
  refine g_var (v := .ref l3) rfl ?_
  refine ⟨.inl ⟨rfl, _, SqL.of h3'⟩, ?_⟩
  walk_at "gg"
  refine ⟨l3, _, .bl true, rfl, rfl, SqL.of h3', rfl, fl, ?_⟩
  rw [show ((([V.bl (decide (i = 0)), V.bl (decide (i = 1)), V.bl (decide (i = 2)), V.bl (decide (i = 3)), V.bl (decide (i = 4))] ++ [V.bl (decide (i = 5)), V.bl (decide (i = 6)), V.bl (decide (i = 7)), V.bl (decide (i = 8))]).countP fun z => eqV z (.bl true) : Nat) : Int) = 1 from congrArg _ f.1]
  walk_at "gg"
  refine g_var (v := .ref l3) rfl ?_
  refine ⟨.inl ⟨rfl, _, SqL.of h3'⟩, ?_⟩
  walk_at "gg"
  refine ⟨l3, _, .bl true, i, .bl true, rfl, rfl, SqL.of h3', rfl, fl, f.2.1, rfl, fun m z hm hz => f.2.2 m hm z hz, ?_⟩
  refine g_ixL (SqL.of h4) (i := (i : Int)) (v := .str word) ?_ ?_
  · exact atI_of (by omega) (by
      rw [Int.toNat_natCast]
      have : (wordsW.map V.str)[i]? = some (.str word) := by
        rw [List.getElem?_map, hw]
        rfl
      exact this)
  exact q _ (((e1.trans e2).trans e3).trans e4)
end
section
open LamX
local macro_rules | `(tactic| walk_at "m") => `(tactic| first
  | with_reducible refine g_m1 ?_
  | with_reducible refine g_isS ?_
  | with_reducible refine g_lcStr ?_
  | with_reducible refine g_join ?_
  | with_reducible refine g_js ?_
  | with_reducible refine g_jsN ?_
  | with_reducible refine g_fmt ?_
  | with_reducible refine g_callLam ?_
  | with_reducible refine g_revT ?_)

/-! ### readings with one instant at most -/
theorem tm_one {w : Way} {z : Zone} {r : Int} (m : IsTm w z (r, 1)) : ∃ a b, insts z r = [a, b] := by
  have key : ∀ l : List Int, l.length = 2 → ∃ a b, l = [a, b] := fun l h => by
    match l, h with
    | [a, b], _ => exact ⟨a, b, rfl⟩
    | [], h => cases h
    | [_], h => cases h
    | _ :: _ :: _ :: _, h => simp only [List.length_cons] at h; omega
  unfold IsTm times at m
  split at m
  · rename_i l
    exact key _ l
  · exfalso
    split at m
    · simp at m
    · simp at m
theorem ge_at {at0 t : Int} (ht : at0 ≤ t) : ∀ {b e : Int} {cs : List (Int × Int)}, okGo b e cs = true → at0 + 12 ≤ e → at0 + b ≤ t + offGo t b cs
  | b, _, [], _, _ => by
    show at0 + b ≤ t + b
    omega
  | b, e, p :: r, h, he => by
    rw [okGo_cons, Bool.and_eq_true] at h
    have h1 := h.1
    unfold okC at h1
    simp only [Bool.and_eq_true, decide_eq_true_eq] at h1
    rw [offGo_cons]
    split
    · omega
    · have ih := ge_at (at0 := p.1) (t := t) (by omega) h.2 (by omega)
      omega
theorem offGo_late {t u : Int} : ∀ {b : Int} {cs : List (Int × Int)}, (∀ p ∈ cs, p.1 ≤ t ∧ p.1 ≤ u) → offGo t b cs = offGo u b cs
  | _, [], _ => rfl
  | b, p :: r, h => by
    have h1 := h p List.mem_cons_self
    rw [offGo_cons, offGo_cons, if_neg (by omega), if_neg (by omega)]
    exact offGo_late fun q hq => h q (List.mem_cons_of_mem _ hq)
theorem le_last {L : Int × Int} : ∀ {b e : Int} {cs : List (Int × Int)}, okGo b e cs = true → cs.getLast? = some L → ∀ p ∈ cs, p.1 ≤ L.1
  | _, _, [], _, h => nomatch h
  | b, e, [p], _, h => fun q hq => by
    cases h
    rw [List.mem_singleton.mp hq]
    exact Int.le_refl _
  | b, e, p :: q :: r, h, hl => fun x hx => by
    rw [okGo_cons, Bool.and_eq_true] at h
    have hl' : (q :: r).getLast? = some L := by
      rw [List.getLast?_cons_cons] at hl
      exact hl
    rcases List.mem_cons.mp hx with rfl | hx
    · have := okGo_after h.2 L (List.mem_of_getLast? hl')
      omega
    · exact le_last h.2 hl' x hx
theorem spot_not {w : Way} {z : Zone} {p : Int × Int} {cs : List (Int × Int)} (h : OkZ z) (e : z.2 = p :: cs) : ¬ IsTm w z (p.1 + p.2 - 1, 1) := fun m => by
  obtain ⟨a, b, hab⟩ := tm_one m
  obtain ⟨lt, ea, eb, _⟩ := h.pair hab
  have go := h.go
  rw [e, okGo_cons, Bool.and_eq_true] at go
  have key : ∀ k, k + off z k = p.1 + p.2 - 1 → k < p.1 ∧ off z k = z.1 := fun k hk => by
    have eo : off z k = if p.1 > k then z.1 else offGo k p.2 cs := by
      show offGo k z.1 z.2 = _
      rw [e]
      rfl
    by_cases c : p.1 > k
    · exact ⟨by omega, by rw [eo, if_pos c]⟩
    · rw [if_neg c] at eo
      have := ge_at (at0 := p.1) (t := k) (by omega) go.2 (by omega)
      omega
  have ka := key a ea
  have kb := key b eb
  omega
theorem last_not {w : Way} {z : Zone} {L : Int × Int} (h : OkZ z) (e : z.2.getLast? = some L) : ¬ IsTm w z (L.1 + 400, 1) := fun m => by
  obtain ⟨a, b, hab⟩ := tm_one m
  obtain ⟨lt, ea, eb, _⟩ := h.pair hab
  have oa := h.offs a
  have ob := h.offs b
  have q : off z a = off z b := offGo_late fun p hp => by
    have := le_last h.go e p hp
    omega
  omega
theorem pd_last {α β : Type} {F : α → β → Prop} {L : β} : ∀ {xs : List α} {ys : List β}, Paired F xs ys → ys.getLast? = some L → ∃ lv, xs.getLast? = some lv ∧ F lv L
  | _, _, .nil, h => nomatch h
  | _, _, .cons r .nil, h => by
    cases h
    exact ⟨_, rfl, r⟩
  | _, _, .cons r (.cons r2 t), h => by
    rw [List.getLast?_cons_cons] at h ⊢
    exact pd_last (.cons r2 t) h
theorem RuleD.map {K : PySem.W.Frag} {H H' : Hp} {v : V} {b : Bool} (m : ∀ d, DaV K H v d → DaV K H' v d) (h : RuleD K H v b) : RuleD K H' v b := by
  rcases h with h | ⟨hb, h | h | h | ⟨d, dv, n⟩⟩
  · exact .inl h
  · exact .inr ⟨hb, .inl h⟩
  · exact .inr ⟨hb, .inr (.inl h)⟩
  · exact .inr ⟨hb, .inr (.inr (.inl h))⟩
  · exact .inr ⟨hb, .inr (.inr (.inr ⟨d, m d dv, n⟩))⟩
theorem KindD.tr {K : PySem.W.Frag} {H H' : Hp} {v : V} {b : Bool} (e : TrT K H H') (h : KindD K H v b) : KindD K H' v b := by
  obtain ⟨d, h1, h2, h3, h4⟩ := h
  exact ⟨d, dp_trT e 1 d v h2 h1, h2, h3, h4⟩
theorem kind_both {K : PySem.W.Frag} {H : Hp} : KindD K H (.str "both") true := ⟨.str "both", .str _, rfl, by decide +kernel, by decide +kernel⟩
theorem kind_skips {K : PySem.W.Frag} {H : Hp} : KindD K H (.str "skips") true := ⟨.str "skips", .str _, rfl, by decide +kernel, by decide +kernel⟩
/-! ### arguments that are none -/
def EvA (K : PySem.W.Frag) (σ : L2.St) (H0 : Hp) (te : TE) (ds : List PyData) : Prop := ∀ H (Q : VK), Ex H0 H → (∀ p xs H', Ex H H' → SqT K H' p xs → Paired (DaV K H') xs ds → Q (.ref p) H') → te σ H Q
section
variable {K : PySem.W.Frag} {σ : L2.St} {H0 : Hp} {te tb : TE} {ta : TA} {d : PyData} {ds es : List PyData} {a : Addr} {xs : List V}
theorem evA_var {i : Nat} (e : σ[i]? = some (some (.ref a))) (q : SqT K H0 a xs) (p : Paired (DaV K H0) xs ds) : EvA K σ H0 (tVar i) ds := fun H Q e0 k => g_var e (k _ _ _ (Evl.Ex.refl _) (Evl.ex_t e0 q) (L2.Paired.mapP p fun _ _ z => z.ex e0))
theorem evD_A (h : EvA K σ H0 te ds) : EvD K σ H0 te (.tuple ds) := fun H Q e0 k => h H _ e0 fun p xs H1 e1 q pd => k _ _ e1 (.tup q (Paired.length pd) (pd_dav pd))
theorem evD_listA (h : EvA K σ H0 te ds) : EvD K σ H0 (tCB (Evl.rListS K) (tCons te tNil)) (.list es) := fun H Q e0 k =>
  h H _ e0 fun p xs H1 e1 q pd => g_listOfT q fun p2 H2 n2 e2 h2 => k _ _ (e1.trans e2) (.lst h2)
theorem evA_lit (h : EvDs K σ H0 ta ds) (few : ds.length ≤ 1000) : EvA K σ H0 (tTup ta) ds := fun H Q e0 k =>
  h H _ e0 fun xs H1 e1 hx => g_newT (by rw [Paired.length hx]; omega) fun p H2 n2 e2 h2 => k _ _ _ (e1.trans e2) (SqT.of h2) (L2.Paired.mapP hx fun _ _ z => z.ex e2)
theorem sIx_m1 {n : Nat} (h : 0 < n) : HT.sIx n n (some (-1)) = n - 1 := by
  unfold HT.sIx
  simp only []
  split <;> omega
theorem pd_takeD {α β : Type} {F : α → β → Prop} : ∀ (n : Nat) {xs : List α} {ys : List β}, Paired F xs ys → Paired F (xs.take n) (ys.take n)
  | 0, _, _, _ => .nil
  | _ + 1, _, _, .nil => .nil
  | n + 1, _, _, .cons h t => .cons h (pd_takeD n t)
theorem evA_init (h : EvA K σ H0 te ds) (ne : 0 < ds.length) : EvA K σ H0 (tSl (rSlA K) te tNoPart (tPart (tUn (rU fun i => .int (-i)) (tC (.int 1))))) (ds.take (ds.length - 1)) := fun H Q e0 k =>
  h H _ e0 fun p xs H1 e1 q pd => by
    have l := Paired.length pd
    have e1' : HT.sIx xs.length xs.length (some (-1)) = xs.length - 1 := sIx_m1 (by omega)
    have e2' : HT.sIx xs.length 0 none = 0 := HT.sIx_none _ _
    refine ⟨1, rfl, _, rfl, p, xs, rfl, q, fun w => ?_, fun _ p2 hp => ?_⟩
    · rw [e1'] at w
      omega
    · have c : cutV xs none (some (-1)) = xs.take (xs.length - 1) := by
        unfold cutV
        rw [e1', e2']
        rfl
      rw [c]
      refine k _ _ _ (e1.trans (Evl.Ex.new hp)) (SqT.of upd_same) ?_
      rw [l]
      exact L2.Paired.mapP (pd_takeD _ pd) fun _ _ z => z.ex (Evl.Ex.new hp)
theorem evA_tail (h : EvA K σ H0 te (d :: ds)) : EvA K σ H0 (tSl (rSlT K) te (tPart (tC (.int 1))) tNoPart) ds := fun H Q e0 k =>
  h H _ e0 fun p xs H1 e1 q pd => by
    cases pd with
    | cons r t =>
      rename_i x xs
      exact ⟨_, rfl, g_slT (k := 1) q (by omega) (by simp) rfl fun p2 H2 n2 e2 q2 => k _ _ _ (e1.trans e2) (SqT.of q2) (L2.Paired.mapP t fun _ _ z => z.ex e2)⟩
theorem evA_catT (h : EvA K σ H0 te (d :: ds)) (h2 : EvA K σ H0 tb es) (few : ds.length + 1 + es.length ≤ 1000) : EvA K σ H0 (tOp (rCatT K) te tb) (d :: ds ++ es) := fun H Q e0 k => by
  have sz : 1000 ≤ sizeLine := by decide
  refine h H _ e0 fun p xs H1 e1 q pd => h2 H1 _ (e0.trans e1) fun p2 ys H2 e2 q2 pd2 => ?_
  have l1 := Paired.length pd
  have l2 := Paired.length pd2
  rw [List.length_cons] at l1
  have px := L2.Paired.mapP pd fun _ _ z => z.ex e2
  refine ⟨p, p2, _, _, rfl, rfl, Evl.ex_t e2 q, q2, (fun z => by rw [z] at l1; cases l1), by omega, fun z => ?_, fun _ p3 hp => ?_⟩
  · subst z
    cases pd2
    exact k _ _ _ (e1.trans e2) (Evl.ex_t e2 q) (by rw [List.append_nil]; exact px)
  · exact k _ _ _ ((e1.trans e2).trans (Evl.Ex.new hp)) (SqT.of upd_same) (L2.Paired.mapP (pd_app px pd2) fun _ _ z => z.ex (Evl.Ex.new hp))
theorem evA_catA (h : EvA K σ H0 te ds) (h2 : EvA K σ H0 tb es) (ne : es ≠ []) (few : ds.length + es.length ≤ 1000) : EvA K σ H0 (tOp (rCatA K) te tb) (ds ++ es) := fun H Q e0 k => by
  have sz : 1000 ≤ sizeLine := by decide
  refine h H _ e0 fun p xs H1 e1 q pd => h2 H1 _ (e0.trans e1) fun p2 ys H2 e2 q2 pd2 => ?_
  have l1 := Paired.length pd
  have l2 := Paired.length pd2
  have px := L2.Paired.mapP pd fun _ _ z => z.ex e2
  refine ⟨p, p2, _, _, rfl, rfl, Evl.ex_t e2 q, q2, by omega, fun z => ?_, fun _ z => ?_, fun _ _ p3 hp => ?_⟩
  · subst z
    cases pd
    exact k _ _ _ (e1.trans e2) q2 pd2
  · subst z
    cases pd2
    exact absurd rfl ne
  · exact k _ _ _ ((e1.trans e2).trans (Evl.Ex.new hp)) (SqT.of upd_same) (L2.Paired.mapP (pd_app px pd2) fun _ _ z => z.ex (Evl.Ex.new hp))
end
def dIt : It → PyData
  | .i n => .int n
  | .t t => .tuple [.int t.1, .int t.2]
theorem dav_it {K : PySem.W.Frag} {H : Hp} {v : V} {it : It} (h : ItV K H v it) : DaV K H v (dIt it) := by
  cases it with
  | i n =>
    cases (show v = V.int n from h)
    exact .int n
  | t t => exact dav_of_pair h
def oddG (ds : List PyData) : List PyData := [.none, .tuple [], .list [], .tuple (ds ++ [.int 0]), .tuple (ds.take (ds.length - 1)), .tuple (.none :: ds.drop 1), .tuple (ds.take (ds.length - 1) ++ [.bool true]), .tuple (ds.take (ds.length - 1) ++ [.int 100001])]
theorem allArgs_last {w : Way} {z : Zone} {x : PyData} (hx : ∀ s, isArgD w z s x = false) : ∀ {ws : List Str} {l : List PyData}, ws.length = l.length + 1 → allArgs w z ws (l ++ [x]) = false
  | [], _, h => by cases h
  | s :: ss, [], _ => by
    show (isArgD w z s x && _) = false
    rw [hx, Bool.false_and]
  | s :: ss, d :: l, h => by
    show (isArgD w z s d && allArgs w z ss (l ++ [x])) = false
    rw [allArgs_last hx (Nat.succ.inj h), Bool.and_false]
theorem arg_none {w : Way} {z : Zone} (s : Str) : isArgD w z s .none = false := by
  unfold isArgD
  split
  · rfl
  · split
    · rfl
    · split <;> rfl
theorem arg_bool {w : Way} {z : Zone} {b : Bool} (s : Str) : isArgD w z s (.bool b) = false := by
  unfold isArgD
  split
  · rfl
  · split
    · rfl
    · split <;> rfl
theorem arg_big {w : Way} {z : Zone} (s : Str) : isArgD w z s (.int 100001) = false := by
  unfold isArgD
  split
  · decide +kernel
  · split
    · decide +kernel
    · split
      · rfl
      · decide +kernel
theorem args_len {w : Way} {z : Zone} {ws : List Str} {ds : List PyData} (h : ds.length ≠ ws.length) : argsD w z ws (.tuple ds) = false := by
  show (decide (ds.length = ws.length) && _) = false
  rw [decide_eq_false h, Bool.false_and]
theorem oddG_bad {w : Way} {z : Zone} {ws : List Str} {ds : List PyData} (l : ds.length = ws.length) (ne : 0 < ws.length) : ∀ d ∈ oddG ds, argsD w z ws d = false := by
  intro d hd
  simp only [oddG, List.mem_cons, List.not_mem_nil, or_false] at hd
  rcases hd with rfl | rfl | rfl | rfl | rfl | rfl | rfl | rfl
  · rfl
  · exact args_len (by simp; omega)
  · rfl
  · exact args_len (by rw [List.length_append]; simp; omega)
  · exact args_len (by rw [List.length_take]; omega)
  · match ws, ne with
    | s :: ss, _ =>
      show (decide _ && (isArgD w z s .none && _)) = false
      rw [arg_none, Bool.false_and, Bool.and_false]
  · show (decide _ && allArgs w z ws _) = false
    rw [allArgs_last arg_bool (by rw [List.length_take]; omega), Bool.and_false]
  · show (decide _ && allArgs w z ws _) = false
    rw [allArgs_last arg_big (by rw [List.length_take]; omega), Bool.and_false]
theorem shape_pos (r : Rule) : 0 < (shapeR r).length := by cases r <;> decide
def oddT (t : Tm) (L S : Int) : List PyData := [.none, .tuple [], .tuple [.int t.1], .tuple [.int t.1, .int t.2, .int 0], .list [], .tuple [.int t.1, .int 2], .tuple [.int t.1, .none], .tuple [.bool true, .int 0], .tuple [.int 90001, .int 0],
  .int 0, .tuple [.int (L + 400), .int 1], .tuple [.int t.1, .bool false], .tuple [.int S, .int 1]]
theorem oddT_bad {w : Way} {z : Zone} {t : Tm} {L S : Int} (h1 : ¬ IsTm w z (L + 400, 1)) (h2 : ¬ IsTm w z (S, 1)) : ∀ d ∈ oddT t L S, isTmD w z d = false := by
  intro d hd
  simp only [oddT, List.mem_cons, List.not_mem_nil, or_false] at hd
  rcases hd with rfl | rfl | rfl | rfl | rfl | rfl | rfl | rfl | rfl | rfl | rfl | rfl | rfl <;> first | rfl | skip
  · show (_ && (decide ((0 : Int) ≤ 2 ∧ (2 : Int) ≤ 1) && _)) = false
    rw [decide_eq_false (by omega : ¬ ((0 : Int) ≤ 2 ∧ (2 : Int) ≤ 1)), Bool.false_and, Bool.and_false]
  · show (_ && (_ && decide (IsTm w z (L + 400, 1)))) = false
    rw [decide_eq_false h1, Bool.and_false, Bool.and_false]
  · show (_ && (_ && decide (IsTm w z (S, 1)))) = false
    rw [decide_eq_false h2, Bool.and_false, Bool.and_false]
/-- what the law's later parts know -/
def InvL (K : PySem.W.Frag) (a : Addr) (ns : List Int) (σ : L2.St) (H : Hp) : Prop := ∃ r wa y zv z tv t x5 x6 x7 x8 x9 x10, σ = [some (.ref a), some (.ref r), some (.ref wa), some zv, some tv, x5, x6, x7, x8, x9, x10] ∧ Row K H (r, a, ns) ∧ WayV K H (.ref wa) y ∧ ZV K H zv z ∧ okZ z = true ∧
  PV K H tv t ∧ IsTm y z t ∧ -3000 ≤ t.1 ∧ t.1 ≤ 3000 ∧ Tabs [((He.cT K ("law", none)).2, "law" ++ ".<locals>." ++ "<lambda>")] H
theorem g_cut9 {P : L2.St → Hp → Prop} {s0 s1 s2 s3 s4 s5 s6 s7 s8 rest : TS} {D : Ends} {σ : L2.St} {H : Hp}
    (h1 : ∀ rest' : TS, (∀ σ H, P σ H → rest' D σ H) → tSeq s0 (tSeq s1 (tSeq s2 (tSeq s3 (tSeq s4 (tSeq s5 (tSeq s6 (tSeq s7 (tSeq s8 rest')))))))) D σ H) (h2 : ∀ σ H, P σ H → rest D σ H) :
    tSeq s0 (tSeq s1 (tSeq s2 (tSeq s3 (tSeq s4 (tSeq s5 (tSeq s6 (tSeq s7 (tSeq s8 rest)))))))) D σ H := h1 rest h2
theorem g_cut5 {P : L2.St → Hp → Prop} {s0 s1 s2 s3 s4 rest : TS} {D : Ends} {σ : L2.St} {H : Hp}
    (h1 : ∀ rest' : TS, (∀ σ H, P σ H → rest' D σ H) → tSeq s0 (tSeq s1 (tSeq s2 (tSeq s3 (tSeq s4 rest')))) D σ H) (h2 : ∀ σ H, P σ H → rest D σ H) :
    tSeq s0 (tSeq s1 (tSeq s2 (tSeq s3 (tSeq s4 rest)))) D σ H := h1 rest h2
theorem g_cut1 {P : L2.St → Hp → Prop} {s0 rest : TS} {D : Ends} {σ : L2.St} {H : Hp} (h1 : ∀ rest' : TS, (∀ σ H, P σ H → rest' D σ H) → tSeq s0 rest' D σ H) (h2 : ∀ σ H, P σ H → rest D σ H) : tSeq s0 rest D σ H := h1 rest h2
def sp_lawT (K : PySem.W.Frag) : Sp := fun vs H Q _ => ∃ (a : Addr) (ns : List Int), vs = [.ref a] ∧ SqL K H a (ns.map V.int) ∧ ns.length ≤ 63 ∧ H (He.cT K ("law", none)).2 = some (.tbl #[]) ∧ ∀ H', Q (.bl true) H'
section
variable {P : Program} {w : World} {K : PySem.W.Frag} {mg : Str → Option Value} {base : Heap}
theorem ok_law (T : Txt w K mg) (hf : He.fAd K ("law", none) = T.f_law.f) (TB : TabB base mg (He.cT K ("law", none)).1 (He.cT K ("law", none)).2) :
    FnOk P w K mg base CX0 13 T.f_law.f T.f_law.fd ["script"] (sp_lawT K) := by
  refine fnC (p := ("law", none)) T.f_law.F hf sc_law (fun vs H Q E h => ?_) (fun A outer s H vs Q E hr h => ?_)
  · obtain ⟨a, ns, rfl, _⟩ := h
    rfl
  obtain ⟨a, ns, rfl, hs, h63, hP, k⟩ := h
  refine ⟨(tSeq (tAsg (tLst (tCons (tVar 0) (tCons (tC (.int 0)) (tCons (tC (.int 15352)) (tCons (tC (.int 0)) tNil))))) (gName 1)) (tSeq (tAsg (tTup (tCons (tCall (sp_law_library K) [] E0 (tCons (tVar 1) tNil)) (tCons (tCall (sp_law_zone K) [] E0 (tCons (tVar 1) (tCons (tC (.str "both")) tNil))) tNil))) (gTup K 2 (gCons (gName 2) (gCons (gName 3) gNil)))) (tSeq (tAsg (tCall (sp_law_time K) [] E0 (tCons (tVar 1) (tCons (tVar 2) (tCons (tVar 3) tNil)))) (gName 4)) (tSeq (tAsg (tOp (rI0 fun i j => .int (i - j)) (tOp (rI0 fun i j => .int (i + j)) (tOp (rIxT K) (tOp (rIxT K) (tOp (rIxT K) (tVar 3) (tC (.int 1))) (tC (.int 0))) (tC (.int 0))) (tOp (rIxT K) (tOp (rIxT K) (tOp (rIxT K) (tVar 3) (tC (.int 1))) (tC (.int 0))) (tC (.int 1)))) (tC (.int 1))) (gName 5)) (tSeq (tAsg (tLst (tCons (tC .non) (tCons (tTup tNil) (tCons (tSl (rSlA K) (tVar 4) tNoPart (tPart (tC (.int 1)))) (tCons (tOp (rCatT K) (tVar 4) (tTup (tCons (tC (.int 0)) tNil))) (tCons (tCB (Evl.rListS K) (tCons (tVar 4) tNil)) (tCons (tTup (tCons (tOp (rIxT K) (tVar 4) (tC (.int 0))) (tCons (tC (.int 2)) tNil))) (tCons (tTup (tCons (tOp (rIxT K) (tVar 4) (tC (.int 0))) (tCons (tC .non) tNil))) (tCons (tTup (tCons (tC (.bl true)) (tCons (tC (.int 0)) tNil))) (tCons (tTup (tCons (tC (.int 90001)) (tCons (tC (.int 0)) tNil))) (tCons (tC (.int 0)) (tCons (tTup (tCons (tOp (rI0 fun i j => .int (i + j)) (tOp (rIxT K) (tOp (rIxT K) (tOp (rIxT K) (tVar 3) (tC (.int 1))) (tUn (rU fun i => .int (-i)) (tC (.int 1)))) (tC (.int 0))) (tC (.int 400))) (tCons (tC (.int 1)) tNil))) (tCons (tTup (tCons (tOp (rIxT K) (tVar 4) (tC (.int 0))) (tCons (tC (.bl false)) tNil))) (tCons (tTup (tCons (tVar 5) (tCons (tC (.int 1)) tNil))) tNil)))))))))))))) (gName 6)) (tSeq (tAsg (tOp (rIxL K) (tVar 6) (tCall (sp_law_taken K) [] E0 (tCons (tVar 1) (tCons (tC (.int 13)) tNil)))) (gName 7)) (tSeq (tAsg (tLst (tCons (tLamV _ _ (lwOf (eArg (sVal (sBody s_law 6)) 0)) _ none) (tCons (tLamV _ _ (lwOf (eArg (sVal (sBody s_law 6)) 1)) _ (some 0)) (tCons (tLamV _ _ (lwOf (eArg (sVal (sBody s_law 6)) 2)) _ (some 0)) (tCons (tLamV _ _ (lwOf (eArg (sVal (sBody s_law 6)) 3)) _ (some 0)) tNil))))) (gName 8)) (tSeq (tDrop (tBM K "list" rAppend (tVar 8) (tCons (tLamV _ _ (lwOf (eArg (sVal (sBody s_law 7)) 0)) _ (some 0)) tNil))) (tSeq (tIfS (tOr (tTest (tOp rNe (tCallLam _ _ [((lwOf (eArg (sVal (sBody s_law 6)) 0)), none, fun E => (tCall (sp_to_instant_x T) [] E (tCons (tVar 2) (tCons (tVar 3) (tCons (tVar 7) tNil))))), ((lwOf (eArg (sVal (sBody s_law 6)) 1)), (some 0), fun E => (tCall (sp_add_x T) [] E (tCons (tVar 2) (tCons (tVar 3) (tCons (tVar 7) (tCons (tC .non) tNil)))))), ((lwOf (eArg (sVal (sBody s_law 6)) 2)), (some 0), fun E => (tCall (sp_subtract_x T) [] E (tCons (tVar 2) (tCons (tVar 3) (tCons (tVar 7) (tCons (tC (.int 0)) tNil)))))), ((lwOf (eArg (sVal (sBody s_law 6)) 3)), (some 0), fun E => (tCall (sp_subtract_x T) [] E (tCons (tVar 2) (tCons (tVar 3) (tCons (tVar 4) (tCons (tVar 7) tNil)))))), ((lwOf (eArg (sVal (sBody s_law 7)) 0)), (some 0), fun E => (tCall (sp_compare_x T) [] E (tCons (tVar 2) (tCons (tVar 3) (tCons (tVar 4) (tCons (tVar 7) tNil))))))] (TT_law_wrong T) (tOp (rIxL K) (tVar 8) (tCall (sp_law_taken K) [] E0 (tCons (tVar 1) (tCons (tC (.int 5)) tNil))))) (tC (.str "time")))) (tOr (tTest (tOp rNotB (tCall (sp_is_time_d K) [] E0 (tCons (tVar 2) (tCons (tVar 3) (tCons (tVar 7) tNil)))) (tC (.bl false)))) (tTest (tOp rNotB (tCall (sp_is_time_d K) [] E0 (tCons (tVar 2) (tCons (tVar 3) (tCons (tVar 4) tNil)))) (tC (.bl true)))))) (tRet (tC (.bl false))) tNext) (tSeq (tIfS (tTest (tOp rNe (tCallLam _ _ [((lwOf (eArg (eArg (sVal (sBody s_law 9)) 0) 0)), none, fun E => (tCall (sp_add_x T) [] E (tCons (tVar 2) (tCons (tVar 3) (tCons (tVar 4) (tCons (tCall (sp_law_pick K) [] E0 (tCons (tVar 1) (tCons (tLst (tCons (tC .non) (tCons (tC (.int 9001)) (tCons (tUn (rU fun i => .int (-i)) (tC (.int 9001))) (tCons (tC (.bl true)) (tCons (tC (.str "1")) (tCons (tTup (tCons (tC (.int 1)) tNil)) tNil))))))) tNil))) tNil))))))] (TT_law_wrong T) (tLamV _ _ (lwOf (eArg (eArg (sVal (sBody s_law 9)) 0) 0)) _ none)) (tC (.str "duration")))) (tRet (tC (.bl false))) tNext) (tSeq (tAsg (tCall (sp_law_pick K) [] E0 (tCons (tVar 1) (tCons (tLst (tCons (tC .non) (tCons (tC (.str "")) (tCons (tC (.str "Later")) (tCons (tC (.str "later ")) (tCons (tC (.int 0)) (tCons (tTup (tCons (tC (.str "later")) tNil)) tNil))))))) tNil))) (gName 7)) (tSeq (tAsg (tLst (tCons (tLamV _ _ (lwOf (eArg (sVal (sBody s_law 11)) 0)) _ none) (tCons (tLamV _ _ (lwOf (eArg (sVal (sBody s_law 11)) 1)) _ (some 0)) (tCons (tLamV _ _ (lwOf (eArg (sVal (sBody s_law 11)) 2)) _ (some 0)) (tCons (tLamV _ _ (lwOf (eArg (sVal (sBody s_law 11)) 3)) _ (some 0)) tNil))))) (gName 8)) (tSeq (tDrop (tBM K "list" rAppend (tVar 8) (tCons (tLamV _ _ (lwOf (eArg (sVal (sBody s_law 12)) 0)) _ (some 0)) tNil))) (tSeq (tAsg (tOp rCat (tVar 8) (tLst (tCons (tLamV _ _ (lwOf (eArg (eArg (sVal (sBody s_law 13)) 1) 0)) _ (some 0)) tNil))) (gName 8)) (tSeq (tIfS (tTest (tOp rNe (tCallLam _ _ [((lwOf (eArg (sVal (sBody s_law 11)) 0)), none, fun E => (tCall (sp_shape_x T) [] E (tCons (tVar 7) tNil))), ((lwOf (eArg (sVal (sBody s_law 11)) 1)), (some 0), fun E => (tCall (sp_holds_for_x T) [] E (tCons (tVar 2) (tCons (tVar 3) (tCons (tVar 7) (tCons (tC (.int 0)) tNil)))))), ((lwOf (eArg (sVal (sBody s_law 11)) 2)), (some 0), fun E => (tCall (sp_holds_x T) [] E (tCons (tVar 2) (tCons (tC (.str "both")) (tCons (tVar 7) tNil))))), ((lwOf (eArg (sVal (sBody s_law 11)) 3)), (some 0), fun E => (tCall (sp_counterexample_x T) [] E (tCons (tVar 2) (tCons (tC (.str "both")) (tCons (tVar 7) tNil))))), ((lwOf (eArg (sVal (sBody s_law 12)) 0)), (some 0), fun E => (tCall (sp_implies_x T) [] E (tCons (tC (.str "skips")) (tCons (tVar 7) (tCons (tC (.int 0)) tNil))))), ((lwOf (eArg (eArg (sVal (sBody s_law 13)) 1) 0)), (some 0), fun E => (tCall (sp_parting_x T) [] E (tCons (tC (.str "skips")) (tCons (tC (.str "later")) (tCons (tVar 7) tNil)))))] (TT_law_wrong T) (tOp (rIxL K) (tVar 8) (tCall (sp_law_taken K) [] E0 (tCons (tVar 1) (tCons (tC (.int 6)) tNil))))) (tC (.str "rule")))) (tRet (tC (.bl false))) tNext) (tSeq (tAsg (tCall (sp_law_pick K) [] E0 (tCons (tVar 1) (tCons (tLst (tCons (tC .non) (tCons (tC (.str "")) (tCons (tC (.str "Both")) (tCons (tC (.str "skip")) (tCons (tC (.int 0)) (tCons (tTup (tCons (tC (.str "both")) tNil)) tNil))))))) tNil))) (gName 7)) (tSeq (tAsg (tLst (tCons (tLamV _ _ (lwOf (eArg (sVal (sBody s_law 16)) 0)) _ none) (tCons (tLamV _ _ (lwOf (eArg (sVal (sBody s_law 16)) 1)) _ (some 0)) (tCons (tLamV _ _ (lwOf (eArg (sVal (sBody s_law 16)) 2)) _ (some 0)) (tCons (tLamV _ _ (lwOf (eArg (sVal (sBody s_law 16)) 3)) _ (some 0)) (tCons (tLamV _ _ (lwOf (eArg (sVal (sBody s_law 16)) 4)) _ (some 0)) tNil)))))) (gName 8)) (tSeq (tDrop (tBM K "list" rAppend (tVar 8) (tCons (tLamV _ _ (lwOf (eArg (sVal (sBody s_law 17)) 0)) _ (some 0)) tNil))) (tSeq (tAsg (tOp rCat (tVar 8) (tLst (tCons (tLamV _ _ (lwOf (eArg (eArg (sVal (sBody s_law 18)) 1) 0)) _ (some 0)) tNil))) (gName 8)) (tSeq (tIfS (tTest (tOp rNe (tCallLam _ _ [((lwOf (eArg (sVal (sBody s_law 16)) 0)), none, fun E => (tCall (sp_holds_x T) [] E (tCons (tVar 2) (tCons (tVar 7) (tCons (tC (.int 0)) tNil))))), ((lwOf (eArg (sVal (sBody s_law 16)) 1)), (some 0), fun E => (tCall (sp_counterexample_x T) [] E (tCons (tVar 2) (tCons (tVar 7) (tCons (tC (.int 0)) tNil))))), ((lwOf (eArg (sVal (sBody s_law 16)) 2)), (some 0), fun E => (tCall (sp_profile_x T) [] E (tCons (tVar 2) (tCons (tVar 7) tNil)))), ((lwOf (eArg (sVal (sBody s_law 16)) 3)), (some 0), fun E => (tCall (sp_implies_x T) [] E (tCons (tVar 7) (tCons (tC (.int 0)) (tCons (tC (.int 0)) tNil))))), ((lwOf (eArg (sVal (sBody s_law 16)) 4)), (some 0), fun E => (tCall (sp_parting_x T) [] E (tCons (tVar 7) (tCons (tC (.int 0)) (tCons (tC (.int 0)) tNil))))), ((lwOf (eArg (sVal (sBody s_law 17)) 0)), (some 0), fun E => (tCall (sp_libraries_with_x T) [] E (tCons (tVar 7) (tCons (tC (.int 0)) tNil)))), ((lwOf (eArg (eArg (sVal (sBody s_law 18)) 1) 0)), (some 0), fun E => (tCall (sp_most_rules_x T) [] E (tCons (tVar 7) tNil)))] (TT_law_wrong T) (tOp (rIxL K) (tVar 8) (tCall (sp_law_taken K) [] E0 (tCons (tVar 1) (tCons (tC (.int 7)) tNil))))) (tC (.str "kind")))) (tRet (tC (.bl false))) tNext) (tSeq (tAsg (tCall (sp_law_pick K) [] E0 (tCons (tVar 1) (tCons (tCall (sp_law_rules K) [] E0 tNil) tNil))) (gName 9)) (tSeq (tAsg (tCall (sp_law_arguments K) [] E0 (tCons (tVar 1) (tCons (tVar 2) (tCons (tVar 3) (tCons (tVar 9) tNil))))) (gName 10)) (tSeq (tAsg (tCall (sp_law_pick K) [] E0 (tCons (tVar 1) (tCons (tLst (tCons (tC .non) (tCons (tTup tNil) (tCons (tCB (Evl.rListS K) (tCons (tVar 10) tNil)) (tCons (tOp (rCatT K) (tVar 10) (tTup (tCons (tC (.int 0)) tNil))) (tCons (tSl (rSlA K) (tVar 10) tNoPart (tPart (tUn (rU fun i => .int (-i)) (tC (.int 1))))) (tCons (tOp (rCatT K) (tTup (tCons (tC .non) tNil)) (tSl (rSlT K) (tVar 10) (tPart (tC (.int 1))) tNoPart)) (tCons (tOp (rCatA K) (tSl (rSlA K) (tVar 10) tNoPart (tPart (tUn (rU fun i => .int (-i)) (tC (.int 1))))) (tTup (tCons (tC (.bl true)) tNil))) (tCons (tOp (rCatA K) (tSl (rSlA K) (tVar 10) tNoPart (tPart (tUn (rU fun i => .int (-i)) (tC (.int 1))))) (tTup (tCons (tC (.int 100001)) tNil))) tNil))))))))) tNil))) (gName 7)) (tRet (tOp rEq (tCallLam _ _ [((lwOf (eArg (eArg (sVal (sBody s_law 23)) 0) 0)), none, fun E => (tCall (sp_holds_for_x T) [] E (tCons (tVar 2) (tCons (tVar 3) (tCons (tVar 9) (tCons (tVar 7) tNil))))))] (TT_law_wrong T) (tLamV _ _ (lwOf (eArg (eArg (sVal (sBody s_law 23)) 0) 0)) _ none)) (tC (.str "arguments"))))))))))))))))))))))))))),
    PSs.nox (pss_cons (ps_set (i := 1) sc_law.nd rfl (Or.inr rfl) (pe_lst (pa_cons (pv 0) (pa_cons pe_int (pa_cons pe_int (pa_cons pe_int pa_nil)))))) (pss_cons (ps_asg (pe_tup (pa_cons (pe_call (ok_law_library T) (hr.mono (by decide)) (by rfl) T.f_law_library.g T.f_law_library.F.kp T.f_law_library.b .nil pass0 (pa_cons (pv 1) pa_nil)) (pa_cons (pe_call (ok_law_zone T) (hr.mono (by decide)) (by rfl) T.f_law_zone.g T.f_law_zone.F.kp T.f_law_zone.b .nil pass0 (pa_cons (pv 1) (pa_cons pe_str pa_nil))) pa_nil))) (pg_tup rfl (pgs_cons (pg_name (i := 2) sc_law.nd rfl (Or.inr rfl)) (pgs_cons (pg_name (i := 3) sc_law.nd rfl (Or.inr rfl)) pgs_nil)))) (pss_cons (ps_set (i := 4) sc_law.nd rfl (Or.inr rfl) (pe_call (ok_law_time T) (hr.mono (by decide)) (by rfl) T.f_law_time.g T.f_law_time.F.kp T.f_law_time.b .nil pass0 (pa_cons (pv 1) (pa_cons (pv 2) (pa_cons (pv 3) pa_nil))))) (pss_cons (ps_set (i := 5) sc_law.nd rfl (Or.inl rfl) (pe_op op_sub (pe_op op_add (pe_ix ix_tup (pe_ix ix_tup (pe_ix ix_tup (pv 3) pe_int (fun _ _ => rfl)) pe_int (fun _ _ => rfl)) pe_int (fun _ _ => rfl)) (pe_ix ix_tup (pe_ix ix_tup (pe_ix ix_tup (pv 3) pe_int (fun _ _ => rfl)) pe_int (fun _ _ => rfl)) pe_int (fun _ _ => rfl))) pe_int)) (pss_cons (ps_set (i := 6) sc_law.nd rfl (Or.inl rfl) (pe_lst (pa_cons pe_non (pa_cons (pe_tup pa_nil) (pa_cons (pe_slice sl_tupA (pv 4) po_none (po_some pe_int)) (pa_cons (pe_op op_catT (pv 4) (pe_tup (pa_cons pe_int pa_nil))) (pa_cons (pe_callTy call_list_of (by rfl) T.z_list (by decide +kernel) (pa_cons (pv 4) pa_nil)) (pa_cons (pe_tup (pa_cons (pe_ix ix_tup (pv 4) pe_int (fun _ _ => rfl)) (pa_cons pe_int pa_nil))) (pa_cons (pe_tup (pa_cons (pe_ix ix_tup (pv 4) pe_int (fun _ _ => rfl)) (pa_cons pe_non pa_nil))) (pa_cons (pe_tup (pa_cons pe_bl (pa_cons pe_int pa_nil))) (pa_cons (pe_tup (pa_cons pe_int (pa_cons pe_int pa_nil))) (pa_cons pe_int (pa_cons (pe_tup (pa_cons (pe_op op_add (pe_ix ix_tup (pe_ix ix_tup (pe_ix ix_tup (pv 3) pe_int (fun _ _ => rfl)) (pe_un un_neg pe_int) (fun _ _ => rfl)) pe_int (fun _ _ => rfl)) pe_int) (pa_cons pe_int pa_nil))) (pa_cons (pe_tup (pa_cons (pe_ix ix_tup (pv 4) pe_int (fun _ _ => rfl)) (pa_cons pe_bl pa_nil))) (pa_cons (pe_tup (pa_cons (pv 5) (pa_cons pe_int pa_nil))) pa_nil))))))))))))))) (pss_cons (ps_set (i := 7) sc_law.nd rfl (Or.inr rfl) (pe_ix ix_list (pv 6) (pe_call (ok_law_taken T) (hr.mono (by decide)) (by rfl) T.f_law_taken.g T.f_law_taken.F.kp T.f_law_taken.b .nil pass0 (pa_cons (pv 1) (pa_cons pe_int pa_nil))) (fun _ _ => rfl))) (pss_cons (ps_set (i := 8) sc_law.nd rfl (Or.inl rfl) (pe_lst (pa_cons (pe_lamV (lwOf (eArg (sVal (sBody s_law 6)) 0)) rfl TB rfl tab_m tab_u (lamS1_by (N := ["script", "row", "way", "zone", "t", "spot", "odd", "bad", "works", "rule", "some"]) (sc := defScope s_law) (by decide +kernel)) rfl) (pa_cons (pe_lamV1 (lwOf (eArg (sVal (sBody s_law 6)) 1)) rfl TB rfl tab_m tab_u (lamS1_by (N := ["script", "row", "way", "zone", "t", "spot", "odd", "bad", "works", "rule", "some"]) (sc := defScope s_law) (by decide +kernel)) rfl) (pa_cons (pe_lamV1 (lwOf (eArg (sVal (sBody s_law 6)) 2)) rfl TB rfl tab_m tab_u (lamS1_by (N := ["script", "row", "way", "zone", "t", "spot", "odd", "bad", "works", "rule", "some"]) (sc := defScope s_law) (by decide +kernel)) rfl) (pa_cons (pe_lamV1 (lwOf (eArg (sVal (sBody s_law 6)) 3)) rfl TB rfl tab_m tab_u (lamS1_by (N := ["script", "row", "way", "zone", "t", "spot", "odd", "bad", "works", "rule", "some"]) (sc := defScope s_law) (by decide +kernel)) rfl) pa_nil)))))) (pss_cons (ps_expr (pe_bm PySem.F.plainAttrs_list PySem.F.slot_list_append PySem.F.type_list_append mt_append (pv 8) (pa_cons (pe_lamV1 (lwOf (eArg (sVal (sBody s_law 7)) 0)) rfl TB rfl tab_m tab_u (lamS1_by (N := ["script", "row", "way", "zone", "t", "spot", "odd", "bad", "works", "rule", "some"]) (sc := defScope s_law) (by decide +kernel)) rfl) pa_nil))) (pss_cons (ps_if (PW.pt (pw_or (pt_cmpR op_ne (pe_callLam (k := 10) (by rfl) T.f_law_wrong.g T.f_law_wrong.F T.f_law_wrong.b sc_law_wrong rfl (.inl rfl) rfl (gives_law_wrong (X := (cxOf CX0 P w K mg base ["script", "row", "way", "zone", "t", "spot", "odd", "bad", "works", "rule", "some"] "law" (defScope s_law) T.f_law.f (.ref (He.cT K ("law", none)).1) A outer s H E).nox) T) hr (lall_cons ⟨lamS1_by (N := ["script", "row", "way", "zone", "t", "spot", "odd", "bad", "works", "rule", "some"]) (sc := defScope s_law) (by decide +kernel), (fun q cl doc pm c ctv => rfl), fun A outer s H E f c' hr => (pe_call (ok_to_instant_x T) (hr.mono (by decide)) (by rfl) T.f_to_instant.g T.f_to_instant.F.kp T.f_to_instant.b .nil (passU (takes_of rfl rfl rfl rfl)) (pa_cons (pv 2) (pa_cons (pv 3) (pa_cons (pv 7) pa_nil))))⟩ (lall_cons ⟨lamS1_by (N := ["script", "row", "way", "zone", "t", "spot", "odd", "bad", "works", "rule", "some"]) (sc := defScope s_law) (by decide +kernel), ⟨"a", by decide +kernel, fun q cl dt doc pm c ctv u => ⟨_, rfl, rfl⟩⟩, fun A outer s H E f c' hr => (pe_call (ok_add_x T) (hr.mono (by decide)) (by rfl) T.f_add.g T.f_add.F.kp T.f_add.b .nil (passU (takes_of rfl rfl rfl rfl)) (pa_cons (pv 2) (pa_cons (pv 3) (pa_cons (pv 7) (pa_cons pe_non pa_nil)))))⟩ (lall_cons ⟨lamS1_by (N := ["script", "row", "way", "zone", "t", "spot", "odd", "bad", "works", "rule", "some"]) (sc := defScope s_law) (by decide +kernel), ⟨"b", by decide +kernel, fun q cl dt doc pm c ctv u => ⟨_, rfl, rfl⟩⟩, fun A outer s H E f c' hr => (pe_call (ok_subtract_x T) (hr.mono (by decide)) (by rfl) T.f_subtract.g T.f_subtract.F.kp T.f_subtract.b .nil (passU (takes_of rfl rfl rfl rfl)) (pa_cons (pv 2) (pa_cons (pv 3) (pa_cons (pv 7) (pa_cons pe_int pa_nil)))))⟩ (lall_cons ⟨lamS1_by (N := ["script", "row", "way", "zone", "t", "spot", "odd", "bad", "works", "rule", "some"]) (sc := defScope s_law) (by decide +kernel), ⟨"c", by decide +kernel, fun q cl dt doc pm c ctv u => ⟨_, rfl, rfl⟩⟩, fun A outer s H E f c' hr => (pe_call (ok_subtract_x T) (hr.mono (by decide)) (by rfl) T.f_subtract.g T.f_subtract.F.kp T.f_subtract.b .nil (passU (takes_of rfl rfl rfl rfl)) (pa_cons (pv 2) (pa_cons (pv 3) (pa_cons (pv 4) (pa_cons (pv 7) pa_nil)))))⟩ (lall_cons ⟨lamS1_by (N := ["script", "row", "way", "zone", "t", "spot", "odd", "bad", "works", "rule", "some"]) (sc := defScope s_law) (by decide +kernel), ⟨"d", by decide +kernel, fun q cl dt doc pm c ctv u => ⟨_, rfl, rfl⟩⟩, fun A outer s H E f c' hr => (pe_call (ok_compare_x T) (hr.mono (by decide)) (by rfl) T.f_compare.g T.f_compare.F.kp T.f_compare.b .nil (passU (takes_of rfl rfl rfl rfl)) (pa_cons (pv 2) (pa_cons (pv 3) (pa_cons (pv 4) (pa_cons (pv 7) pa_nil)))))⟩ lall_nil))))) (pe_ix ix_list (pv 8) (pe_call (ok_law_taken T) (hr.mono (by decide)) (by rfl) T.f_law_taken.g T.f_law_taken.F.kp T.f_law_taken.b .nil pass0 (pa_cons (pv 1) (pa_cons pe_int pa_nil))) (fun _ _ => rfl))) pe_str (nomark _)) (pw_or (pt_cmpR op_notBl (pe_call (ok_is_time_d T) (hr.mono (by decide)) (by rfl) T.f_is_time.g T.f_is_time.F.kp T.f_is_time.b .nil pass0 (pa_cons (pv 2) (pa_cons (pv 3) (pa_cons (pv 7) pa_nil)))) pe_bl (nomark _)) (pw_or1 (pt_cmpR op_notBl (pe_call (ok_is_time_d T) (hr.mono (by decide)) (by rfl) T.f_is_time.g T.f_is_time.F.kp T.f_is_time.b .nil pass0 (pa_cons (pv 2) (pa_cons (pv 3) (pa_cons (pv 4) pa_nil)))) pe_bl (nomark _)))))) (pss_one (ps_ret pe_bl)) pss_nil) (pss_cons (ps_if (pt_cmpR op_ne (pe_callLam (k := 10) (by rfl) T.f_law_wrong.g T.f_law_wrong.F T.f_law_wrong.b sc_law_wrong rfl (.inl rfl) rfl (gives_law_wrong (X := (cxOf CX0 P w K mg base ["script", "row", "way", "zone", "t", "spot", "odd", "bad", "works", "rule", "some"] "law" (defScope s_law) T.f_law.f (.ref (He.cT K ("law", none)).1) A outer s H E).nox) T) hr (lall_cons ⟨lamS1_by (N := ["script", "row", "way", "zone", "t", "spot", "odd", "bad", "works", "rule", "some"]) (sc := defScope s_law) (by decide +kernel), (fun q cl doc pm c ctv => rfl), fun A outer s H E f c' hr => (pe_call (ok_add_x T) (hr.mono (by decide)) (by rfl) T.f_add.g T.f_add.F.kp T.f_add.b .nil (passU (takes_of rfl rfl rfl rfl)) (pa_cons (pv 2) (pa_cons (pv 3) (pa_cons (pv 4) (pa_cons (pe_call (ok_law_pick T) (hr.mono (by decide)) (by rfl) T.f_law_pick.g T.f_law_pick.F.kp T.f_law_pick.b .nil pass0 (pa_cons (pv 1) (pa_cons (pe_lst (pa_cons pe_non (pa_cons pe_int (pa_cons (pe_un un_neg pe_int) (pa_cons pe_bl (pa_cons pe_str (pa_cons (pe_tup (pa_cons pe_int pa_nil)) pa_nil))))))) pa_nil))) pa_nil)))))⟩ lall_nil) (pe_lamV (lwOf (eArg (eArg (sVal (sBody s_law 9)) 0) 0)) rfl TB rfl tab_m tab_u (lamS1_by (N := ["script", "row", "way", "zone", "t", "spot", "odd", "bad", "works", "rule", "some"]) (sc := defScope s_law) (by decide +kernel)) rfl)) pe_str (nomark _)) (pss_one (ps_ret pe_bl)) pss_nil) (pss_cons (ps_set (i := 7) sc_law.nd rfl (Or.inr rfl) (pe_call (ok_law_pick T) (hr.mono (by decide)) (by rfl) T.f_law_pick.g T.f_law_pick.F.kp T.f_law_pick.b .nil pass0 (pa_cons (pv 1) (pa_cons (pe_lst (pa_cons pe_non (pa_cons pe_str (pa_cons pe_str (pa_cons pe_str (pa_cons pe_int (pa_cons (pe_tup (pa_cons pe_str pa_nil)) pa_nil))))))) pa_nil)))) (pss_cons (ps_set (i := 8) sc_law.nd rfl (Or.inl rfl) (pe_lst (pa_cons (pe_lamV (lwOf (eArg (sVal (sBody s_law 11)) 0)) rfl TB rfl tab_m tab_u (lamS1_by (N := ["script", "row", "way", "zone", "t", "spot", "odd", "bad", "works", "rule", "some"]) (sc := defScope s_law) (by decide +kernel)) rfl) (pa_cons (pe_lamV1 (lwOf (eArg (sVal (sBody s_law 11)) 1)) rfl TB rfl tab_m tab_u (lamS1_by (N := ["script", "row", "way", "zone", "t", "spot", "odd", "bad", "works", "rule", "some"]) (sc := defScope s_law) (by decide +kernel)) rfl) (pa_cons (pe_lamV1 (lwOf (eArg (sVal (sBody s_law 11)) 2)) rfl TB rfl tab_m tab_u (lamS1_by (N := ["script", "row", "way", "zone", "t", "spot", "odd", "bad", "works", "rule", "some"]) (sc := defScope s_law) (by decide +kernel)) rfl) (pa_cons (pe_lamV1 (lwOf (eArg (sVal (sBody s_law 11)) 3)) rfl TB rfl tab_m tab_u (lamS1_by (N := ["script", "row", "way", "zone", "t", "spot", "odd", "bad", "works", "rule", "some"]) (sc := defScope s_law) (by decide +kernel)) rfl) pa_nil)))))) (pss_cons (ps_expr (pe_bm PySem.F.plainAttrs_list PySem.F.slot_list_append PySem.F.type_list_append mt_append (pv 8) (pa_cons (pe_lamV1 (lwOf (eArg (sVal (sBody s_law 12)) 0)) rfl TB rfl tab_m tab_u (lamS1_by (N := ["script", "row", "way", "zone", "t", "spot", "odd", "bad", "works", "rule", "some"]) (sc := defScope s_law) (by decide +kernel)) rfl) pa_nil))) (pss_cons (ps_set (i := 8) sc_law.nd rfl (Or.inl rfl) (pe_op op_cat (pv 8) (pe_lst (pa_cons (pe_lamV1 (lwOf (eArg (eArg (sVal (sBody s_law 13)) 1) 0)) rfl TB rfl tab_m tab_u (lamS1_by (N := ["script", "row", "way", "zone", "t", "spot", "odd", "bad", "works", "rule", "some"]) (sc := defScope s_law) (by decide +kernel)) rfl) pa_nil)))) (pss_cons (ps_if (pt_cmpR op_ne (pe_callLam (k := 10) (by rfl) T.f_law_wrong.g T.f_law_wrong.F T.f_law_wrong.b sc_law_wrong rfl (.inl rfl) rfl (gives_law_wrong (X := (cxOf CX0 P w K mg base ["script", "row", "way", "zone", "t", "spot", "odd", "bad", "works", "rule", "some"] "law" (defScope s_law) T.f_law.f (.ref (He.cT K ("law", none)).1) A outer s H E).nox) T) hr (lall_cons ⟨lamS1_by (N := ["script", "row", "way", "zone", "t", "spot", "odd", "bad", "works", "rule", "some"]) (sc := defScope s_law) (by decide +kernel), (fun q cl doc pm c ctv => rfl), fun A outer s H E f c' hr => (pe_call (ok_shape_x T) (hr.mono (by decide)) (by rfl) T.f_shape.g T.f_shape.F.kp T.f_shape.b .nil (passU (takes_of rfl rfl rfl rfl)) (pa_cons (pv 7) pa_nil))⟩ (lall_cons ⟨lamS1_by (N := ["script", "row", "way", "zone", "t", "spot", "odd", "bad", "works", "rule", "some"]) (sc := defScope s_law) (by decide +kernel), ⟨"a", by decide +kernel, fun q cl dt doc pm c ctv u => ⟨_, rfl, rfl⟩⟩, fun A outer s H E f c' hr => (pe_call (ok_holds_for_x T) (hr.mono (by decide)) (by rfl) T.f_holds_for.g T.f_holds_for.F.kp T.f_holds_for.b .nil (passU (takes_of rfl rfl rfl rfl)) (pa_cons (pv 2) (pa_cons (pv 3) (pa_cons (pv 7) (pa_cons pe_int pa_nil)))))⟩ (lall_cons ⟨lamS1_by (N := ["script", "row", "way", "zone", "t", "spot", "odd", "bad", "works", "rule", "some"]) (sc := defScope s_law) (by decide +kernel), ⟨"b", by decide +kernel, fun q cl dt doc pm c ctv u => ⟨_, rfl, rfl⟩⟩, fun A outer s H E f c' hr => (pe_call (ok_holds_x T) (hr.mono (by decide)) (by rfl) T.f_holds.g T.f_holds.F.kp T.f_holds.b .nil (passU (takes_of rfl rfl rfl rfl)) (pa_cons (pv 2) (pa_cons pe_str (pa_cons (pv 7) pa_nil))))⟩ (lall_cons ⟨lamS1_by (N := ["script", "row", "way", "zone", "t", "spot", "odd", "bad", "works", "rule", "some"]) (sc := defScope s_law) (by decide +kernel), ⟨"c", by decide +kernel, fun q cl dt doc pm c ctv u => ⟨_, rfl, rfl⟩⟩, fun A outer s H E f c' hr => (pe_call (ok_counterexample_x T) (hr.mono (by decide)) (by rfl) T.f_counterexample.g T.f_counterexample.F.kp T.f_counterexample.b .nil (passU (takes_of rfl rfl rfl rfl)) (pa_cons (pv 2) (pa_cons pe_str (pa_cons (pv 7) pa_nil))))⟩ (lall_cons ⟨lamS1_by (N := ["script", "row", "way", "zone", "t", "spot", "odd", "bad", "works", "rule", "some"]) (sc := defScope s_law) (by decide +kernel), ⟨"d", by decide +kernel, fun q cl dt doc pm c ctv u => ⟨_, rfl, rfl⟩⟩, fun A outer s H E f c' hr => (pe_call (ok_implies_x T) (hr.mono (by decide)) (by rfl) T.f_implies.g T.f_implies.F.kp T.f_implies.b .nil (passU (takes_of rfl rfl rfl rfl)) (pa_cons pe_str (pa_cons (pv 7) (pa_cons pe_int pa_nil))))⟩ (lall_cons ⟨lamS1_by (N := ["script", "row", "way", "zone", "t", "spot", "odd", "bad", "works", "rule", "some"]) (sc := defScope s_law) (by decide +kernel), ⟨"e", by decide +kernel, fun q cl dt doc pm c ctv u => ⟨_, rfl, rfl⟩⟩, fun A outer s H E f c' hr => (pe_call (ok_parting_x T) (hr.mono (by decide)) (by rfl) T.f_parting.g T.f_parting.F.kp T.f_parting.b .nil (passU (takes_of rfl rfl rfl rfl)) (pa_cons pe_str (pa_cons pe_str (pa_cons (pv 7) pa_nil))))⟩ lall_nil)))))) (pe_ix ix_list (pv 8) (pe_call (ok_law_taken T) (hr.mono (by decide)) (by rfl) T.f_law_taken.g T.f_law_taken.F.kp T.f_law_taken.b .nil pass0 (pa_cons (pv 1) (pa_cons pe_int pa_nil))) (fun _ _ => rfl))) pe_str (nomark _)) (pss_one (ps_ret pe_bl)) pss_nil) (pss_cons (ps_set (i := 7) sc_law.nd rfl (Or.inr rfl) (pe_call (ok_law_pick T) (hr.mono (by decide)) (by rfl) T.f_law_pick.g T.f_law_pick.F.kp T.f_law_pick.b .nil pass0 (pa_cons (pv 1) (pa_cons (pe_lst (pa_cons pe_non (pa_cons pe_str (pa_cons pe_str (pa_cons pe_str (pa_cons pe_int (pa_cons (pe_tup (pa_cons pe_str pa_nil)) pa_nil))))))) pa_nil)))) (pss_cons (ps_set (i := 8) sc_law.nd rfl (Or.inl rfl) (pe_lst (pa_cons (pe_lamV (lwOf (eArg (sVal (sBody s_law 16)) 0)) rfl TB rfl tab_m tab_u (lamS1_by (N := ["script", "row", "way", "zone", "t", "spot", "odd", "bad", "works", "rule", "some"]) (sc := defScope s_law) (by decide +kernel)) rfl) (pa_cons (pe_lamV1 (lwOf (eArg (sVal (sBody s_law 16)) 1)) rfl TB rfl tab_m tab_u (lamS1_by (N := ["script", "row", "way", "zone", "t", "spot", "odd", "bad", "works", "rule", "some"]) (sc := defScope s_law) (by decide +kernel)) rfl) (pa_cons (pe_lamV1 (lwOf (eArg (sVal (sBody s_law 16)) 2)) rfl TB rfl tab_m tab_u (lamS1_by (N := ["script", "row", "way", "zone", "t", "spot", "odd", "bad", "works", "rule", "some"]) (sc := defScope s_law) (by decide +kernel)) rfl) (pa_cons (pe_lamV1 (lwOf (eArg (sVal (sBody s_law 16)) 3)) rfl TB rfl tab_m tab_u (lamS1_by (N := ["script", "row", "way", "zone", "t", "spot", "odd", "bad", "works", "rule", "some"]) (sc := defScope s_law) (by decide +kernel)) rfl) (pa_cons (pe_lamV1 (lwOf (eArg (sVal (sBody s_law 16)) 4)) rfl TB rfl tab_m tab_u (lamS1_by (N := ["script", "row", "way", "zone", "t", "spot", "odd", "bad", "works", "rule", "some"]) (sc := defScope s_law) (by decide +kernel)) rfl) pa_nil))))))) (pss_cons (ps_expr (pe_bm PySem.F.plainAttrs_list PySem.F.slot_list_append PySem.F.type_list_append mt_append (pv 8) (pa_cons (pe_lamV1 (lwOf (eArg (sVal (sBody s_law 17)) 0)) rfl TB rfl tab_m tab_u (lamS1_by (N := ["script", "row", "way", "zone", "t", "spot", "odd", "bad", "works", "rule", "some"]) (sc := defScope s_law) (by decide +kernel)) rfl) pa_nil))) (pss_cons (ps_set (i := 8) sc_law.nd rfl (Or.inl rfl) (pe_op op_cat (pv 8) (pe_lst (pa_cons (pe_lamV1 (lwOf (eArg (eArg (sVal (sBody s_law 18)) 1) 0)) rfl TB rfl tab_m tab_u (lamS1_by (N := ["script", "row", "way", "zone", "t", "spot", "odd", "bad", "works", "rule", "some"]) (sc := defScope s_law) (by decide +kernel)) rfl) pa_nil)))) (pss_cons (ps_if (pt_cmpR op_ne (pe_callLam (k := 10) (by rfl) T.f_law_wrong.g T.f_law_wrong.F T.f_law_wrong.b sc_law_wrong rfl (.inl rfl) rfl (gives_law_wrong (X := (cxOf CX0 P w K mg base ["script", "row", "way", "zone", "t", "spot", "odd", "bad", "works", "rule", "some"] "law" (defScope s_law) T.f_law.f (.ref (He.cT K ("law", none)).1) A outer s H E).nox) T) hr (lall_cons ⟨lamS1_by (N := ["script", "row", "way", "zone", "t", "spot", "odd", "bad", "works", "rule", "some"]) (sc := defScope s_law) (by decide +kernel), (fun q cl doc pm c ctv => rfl), fun A outer s H E f c' hr => (pe_call (ok_holds_x T) (hr.mono (by decide)) (by rfl) T.f_holds.g T.f_holds.F.kp T.f_holds.b .nil (passU (takes_of rfl rfl rfl rfl)) (pa_cons (pv 2) (pa_cons (pv 7) (pa_cons pe_int pa_nil))))⟩ (lall_cons ⟨lamS1_by (N := ["script", "row", "way", "zone", "t", "spot", "odd", "bad", "works", "rule", "some"]) (sc := defScope s_law) (by decide +kernel), ⟨"a", by decide +kernel, fun q cl dt doc pm c ctv u => ⟨_, rfl, rfl⟩⟩, fun A outer s H E f c' hr => (pe_call (ok_counterexample_x T) (hr.mono (by decide)) (by rfl) T.f_counterexample.g T.f_counterexample.F.kp T.f_counterexample.b .nil (passU (takes_of rfl rfl rfl rfl)) (pa_cons (pv 2) (pa_cons (pv 7) (pa_cons pe_int pa_nil))))⟩ (lall_cons ⟨lamS1_by (N := ["script", "row", "way", "zone", "t", "spot", "odd", "bad", "works", "rule", "some"]) (sc := defScope s_law) (by decide +kernel), ⟨"b", by decide +kernel, fun q cl dt doc pm c ctv u => ⟨_, rfl, rfl⟩⟩, fun A outer s H E f c' hr => (pe_call (ok_profile_x T) (hr.mono (by decide)) (by rfl) T.f_profile.g T.f_profile.F.kp T.f_profile.b .nil (passU (takes_of rfl rfl rfl rfl)) (pa_cons (pv 2) (pa_cons (pv 7) pa_nil)))⟩ (lall_cons ⟨lamS1_by (N := ["script", "row", "way", "zone", "t", "spot", "odd", "bad", "works", "rule", "some"]) (sc := defScope s_law) (by decide +kernel), ⟨"c", by decide +kernel, fun q cl dt doc pm c ctv u => ⟨_, rfl, rfl⟩⟩, fun A outer s H E f c' hr => (pe_call (ok_implies_x T) (hr.mono (by decide)) (by rfl) T.f_implies.g T.f_implies.F.kp T.f_implies.b .nil (passU (takes_of rfl rfl rfl rfl)) (pa_cons (pv 7) (pa_cons pe_int (pa_cons pe_int pa_nil))))⟩ (lall_cons ⟨lamS1_by (N := ["script", "row", "way", "zone", "t", "spot", "odd", "bad", "works", "rule", "some"]) (sc := defScope s_law) (by decide +kernel), ⟨"d", by decide +kernel, fun q cl dt doc pm c ctv u => ⟨_, rfl, rfl⟩⟩, fun A outer s H E f c' hr => (pe_call (ok_parting_x T) (hr.mono (by decide)) (by rfl) T.f_parting.g T.f_parting.F.kp T.f_parting.b .nil (passU (takes_of rfl rfl rfl rfl)) (pa_cons (pv 7) (pa_cons pe_int (pa_cons pe_int pa_nil))))⟩ (lall_cons ⟨lamS1_by (N := ["script", "row", "way", "zone", "t", "spot", "odd", "bad", "works", "rule", "some"]) (sc := defScope s_law) (by decide +kernel), ⟨"e", by decide +kernel, fun q cl dt doc pm c ctv u => ⟨_, rfl, rfl⟩⟩, fun A outer s H E f c' hr => (pe_call (ok_libraries_with_x T) (hr.mono (by decide)) (by rfl) T.f_libraries_with.g T.f_libraries_with.F.kp T.f_libraries_with.b .nil (passU (takes_of rfl rfl rfl rfl)) (pa_cons (pv 7) (pa_cons pe_int pa_nil)))⟩ (lall_cons ⟨lamS1_by (N := ["script", "row", "way", "zone", "t", "spot", "odd", "bad", "works", "rule", "some"]) (sc := defScope s_law) (by decide +kernel), ⟨"f", by decide +kernel, fun q cl dt doc pm c ctv u => ⟨_, rfl, rfl⟩⟩, fun A outer s H E f c' hr => (pe_call (ok_most_rules_x T) (hr.mono (by decide)) (by rfl) T.f_most_rules.g T.f_most_rules.F.kp T.f_most_rules.b .nil (passU (takes_of rfl rfl rfl rfl)) (pa_cons (pv 7) pa_nil))⟩ lall_nil))))))) (pe_ix ix_list (pv 8) (pe_call (ok_law_taken T) (hr.mono (by decide)) (by rfl) T.f_law_taken.g T.f_law_taken.F.kp T.f_law_taken.b .nil pass0 (pa_cons (pv 1) (pa_cons pe_int pa_nil))) (fun _ _ => rfl))) pe_str (nomark _)) (pss_one (ps_ret pe_bl)) pss_nil) (pss_cons (ps_set (i := 9) sc_law.nd rfl (Or.inr rfl) (pe_call (ok_law_pick T) (hr.mono (by decide)) (by rfl) T.f_law_pick.g T.f_law_pick.F.kp T.f_law_pick.b .nil pass0 (pa_cons (pv 1) (pa_cons (pe_call0 (ok_law_rules T) (hr.mono (by decide)) (by rfl) T.f_law_rules.g T.f_law_rules.F.kp T.f_law_rules.b .nil pass0) pa_nil)))) (pss_cons (ps_set (i := 10) sc_law.nd rfl (Or.inl rfl) (pe_call (ok_law_arguments T) (hr.mono (by decide)) (by rfl) T.f_law_arguments.g T.f_law_arguments.F.kp T.f_law_arguments.b .nil pass0 (pa_cons (pv 1) (pa_cons (pv 2) (pa_cons (pv 3) (pa_cons (pv 9) pa_nil)))))) (pss_cons (ps_set (i := 7) sc_law.nd rfl (Or.inr rfl) (pe_call (ok_law_pick T) (hr.mono (by decide)) (by rfl) T.f_law_pick.g T.f_law_pick.F.kp T.f_law_pick.b .nil pass0 (pa_cons (pv 1) (pa_cons (pe_lst (pa_cons pe_non (pa_cons (pe_tup pa_nil) (pa_cons (pe_callTy call_list_of (by rfl) T.z_list (by decide +kernel) (pa_cons (pv 10) pa_nil)) (pa_cons (pe_op op_catT (pv 10) (pe_tup (pa_cons pe_int pa_nil))) (pa_cons (pe_slice sl_tupA (pv 10) po_none (po_some (pe_un un_neg pe_int))) (pa_cons (pe_op op_catT (pe_tup (pa_cons pe_non pa_nil)) (pe_slice sl_tup (pv 10) (po_some pe_int) po_none)) (pa_cons (pe_op op_catA (pe_slice sl_tupA (pv 10) po_none (po_some (pe_un un_neg pe_int))) (pe_tup (pa_cons pe_bl pa_nil))) (pa_cons (pe_op op_catA (pe_slice sl_tupA (pv 10) po_none (po_some (pe_un un_neg pe_int))) (pe_tup (pa_cons pe_int pa_nil))) pa_nil))))))))) pa_nil)))) (pss_one (ps_ret (pe_cmpR op_eq (pe_callLam (k := 10) (by rfl) T.f_law_wrong.g T.f_law_wrong.F T.f_law_wrong.b sc_law_wrong rfl (.inl rfl) rfl (gives_law_wrong (X := (cxOf CX0 P w K mg base ["script", "row", "way", "zone", "t", "spot", "odd", "bad", "works", "rule", "some"] "law" (defScope s_law) T.f_law.f (.ref (He.cT K ("law", none)).1) A outer s H E).nox) T) hr (lall_cons ⟨lamS1_by (N := ["script", "row", "way", "zone", "t", "spot", "odd", "bad", "works", "rule", "some"]) (sc := defScope s_law) (by decide +kernel), (fun q cl doc pm c ctv => rfl), fun A outer s H E f c' hr => (pe_call (ok_holds_for_x T) (hr.mono (by decide)) (by rfl) T.f_holds_for.g T.f_holds_for.F.kp T.f_holds_for.b .nil (passU (takes_of rfl rfl rfl rfl)) (pa_cons (pv 2) (pa_cons (pv 3) (pa_cons (pv 9) (pa_cons (pv 7) pa_nil)))))⟩ lall_nil) (pe_lamV (lwOf (eArg (eArg (sVal (sBody s_law 23)) 0) 0)) rfl TB rfl tab_m tab_u (lamS1_by (N := ["script", "row", "way", "zone", "t", "spot", "odd", "bad", "works", "rule", "some"]) (sc := defScope s_law) (by decide +kernel)) rfl)) pe_str (nomark _))))))))))))))))))))))))))), ?_⟩
  refine g_cut9 (P := InvL K a ns) (fun rest' hrest => ?_) ?_
  · walk_at "gg"
    refine g_newL (by simp) fun r H1 n1 e1 h1 => ?_
    walk_at "gg"
    have R1 : Row K H1 (r, a, ns) := Row.new hs n1 e1 h1 (by omega) (by omega)
    have T1 := tabs_one (q := "law" ++ ".<locals>." ++ "<lambda>") (e1 _ _ hP)
    refine ⟨(r, a, ns), rfl, R1, fun wv y H2 f2 R2 hw2 => ?_⟩
    walk_at "gg"
    refine ⟨(r, a, ns), _, rfl, R2, .inr (.inr (.inr rfl)), fun zv z H3 f3 R3 hz3 hg => ?_⟩
    have hw3 := hw2.tr (R2.tr f3)
    obtain ⟨rs1, q1⟩ := R1.lst
    have T3 := tabs_keep T1 q1 (f2.trans f3)
    walk_at "m"
    refine g_newT (by simp) fun p4 H4 n4 e4 h4 => ?_
    walk_at "mm"
    have hZ := OkZ.of hg.ok
    refine ⟨(r, a, ns), _, _, y, z, rfl, R3.ex e4, hw3.tr (TrT.of e4), hz3.tr (TrT.of e4), hZ, fun tv t H5 f5 R5 ht it t1 t2 => ?_⟩
    have tr35 := (TrT.of e4).trans ((R3.ex e4).tr f5)
    obtain ⟨wa, rfl, hwa⟩ := hw3.tr tr35
    have hz5 := hz3.tr tr35
    obtain ⟨za, zc, rfl, hza, zb, zxs, rfl, hzb, hps⟩ := id hz5
    obtain ⟨ta, rfl, hta⟩ := id ht
    obtain ⟨rs3, q3⟩ := R3.lst
    have T5 := tabs_keep T3 q3 ((Fr.of e4).trans f5)
    obtain ⟨c1, cs, hcs⟩ : ∃ c1 cs, z.2 = c1 :: cs := by
      cases hc : z.2 with
      | nil =>
        have hk := hg.kind
        unfold kindOf at hk
        rw [hc] at hk
        exact absurd hk (by show ¬ (("fixed" : Str) = "both"); decide +kernel)
      | cons c1 cs => exact ⟨c1, cs, rfl⟩
    obtain ⟨v1, vs, hvs, p1, rfl, hp1⟩ : ∃ v1 vs, zxs = v1 :: vs ∧ PV K H5 v1 c1 := by
      rw [hcs] at hps
      cases hps with
      | cons h1 h2 => exact ⟨_, _, rfl, h1⟩
    obtain ⟨L, hL⟩ : ∃ L, z.2.getLast? = some L := by
      rw [hcs]
      exact ⟨_, List.getLast?_eq_some_getLast (by simp)⟩
    obtain ⟨lv, hlv, pl, rfl, hpl⟩ : ∃ lv, zxs.getLast? = some lv ∧ PV K H5 lv L := by
      exact pd_last hps hL
    subst hvs
    walk_at "mm"
    refine g_ixT hzb (atI_of (by omega) rfl) ?_
    walk_at "mm"
    refine g_ixT hzb (atI_of (by omega) rfl) ?_
    walk_at "mm"
    refine g_dlst (K := K) (ds := oddT t L.1 (c1.1 + c1.2 - 1)) ?_ (by exact (by decide : 13 ≤ 1000)) fun l5 xs5 H6 n6 e6 h6 pd6 => ?_
    · have V : ∀ {σ : L2.St}, σ[4]? = some (some (.ref ta)) → EvT K σ H5 (tVar 4) [.int t.1, .int t.2] := fun e => evT_var e hta
      have I : ∀ {σ : L2.St}, σ[4]? = some (some (.ref ta)) → EvD K σ H5 (tOp (rIxT K) (tVar 4) (tC (.int 0))) (.int t.1) := fun e H Q e0 k => g_var e (g_ixT (Evl.ex_t e0 hta) rfl (k _ _ (Evl.Ex.refl _) (.int _)))
      refine evDs_cons evD_non (evDs_cons (evD_tup evDs_nil (by decide)) (evDs_cons (evD_T (evT_slA 1 rfl (V rfl) (by simp) rfl) rfl rfl) (evDs_cons (evD_T (evT_cat (V rfl) (evT_lit (fun _ _ k => k) (by simp)) (by simp) (by simp) (by simp) rfl) rfl rfl)
        (evDs_cons (evD_listOf (V rfl)) (evDs_cons (evD_tup (evDs_cons (I rfl) (evDs_cons evD_int evDs_nil)) (by simp)) (evDs_cons (evD_tup (evDs_cons (I rfl) (evDs_cons evD_non evDs_nil)) (by simp))
        (evDs_cons (evD_tup (evDs_cons evD_bl (evDs_cons evD_int evDs_nil)) (by simp)) (evDs_cons (evD_tup (evDs_cons evD_int (evDs_cons evD_int evDs_nil)) (by simp)) (evDs_cons evD_int
        (evDs_cons (evD_tup (evDs_cons ?_ (evDs_cons evD_int evDs_nil)) (by simp)) (evDs_cons (evD_tup (evDs_cons (I rfl) (evDs_cons evD_bl evDs_nil)) (by simp)) (evDs_cons (evD_tup (evDs_cons ?_ (evDs_cons evD_int evDs_nil)) (by simp)) evDs_nil))))))))))))
      · intro H7 Q7 e7 k7
        walk_at "mm"
        refine g_ixT (Evl.ex_t e7 hzb) (atI_end hlv) ?_
        walk_at "mm"
        exact k7 _ _ (Evl.Ex.refl _) (.int _)
      · exact fun H Q e k => g_var rfl (k _ _ (Evl.Ex.refl _) (.int _))
    have R6 := R5.ex e6
    obtain ⟨rs5, q5⟩ := R5.lst
    have n6r : l5 ≠ r := (ne_of_none q5 n6).symm
    have T6 := tabs_keep T5 q5 (Fr.of e6)
    walk_at "mm"
    refine ⟨(r, a, ns), _, rfl, R6, by omega, by omega, fun v7 H7 p7 q7 f7 R7 => ?_⟩
    have h7 := f7 _ _ n6r h6
    have l13 : xs5.length = 13 := (Paired.length pd6).trans (by rfl)
    have lt7 : v7.toNat < xs5.length := by omega
    have hx7 := List.getElem?_eq_getElem lt7
    refine g_ixL (SqL.of h7) (atI_of p7 hx7) ?_
    obtain ⟨d, hd, dv6⟩ := pd_get pd6 hx7
    obtain ⟨rs6, q6⟩ := R6.lst
    obtain ⟨rs7, q7'⟩ := R7.lst
    have dv7 := dv6.fr q6 q7' f7
    have tr57 := (TrT.of e6).trans (R6.tr f7)
    have hz7 := hz5.tr tr57
    have hw7 : WayV K H7 (.ref wa) y := ⟨wa, rfl, tr57 _ _ hwa⟩
    have ht7 := ht.tr tr57
    have T7 := tabs_keep T6 q6 f7
    have bad := oddT_bad (w := y) (t := t) (last_not hZ hL) (spot_not hZ hcs) d (List.mem_of_getElem? hd)
    have good := isTmD_of it (by omega) (by omega) (by rcases IsTm.pass it with p | p; exact .inl p; exact .inr p.1)
    clear dv6 hx7 h7 pd6 h6 q6 q5 T6 T5 T3 T1 hz5 hwa hps hzb hza hcs
    generalize xs5[v7.toNat] = bv at dv7 ⊢
    walk_at "mm"
    refine g_lams (evLs_cons (evLs_cons (evLs_cons (evLs_cons evLs_nil)))) T7 (by simp) fun l8 fs8 H8 eN8 nf8 T8 h8 p8 => ?_
    walk_at "mm"
    refine g_var (v := .ref l8) rfl ⟨.inl ⟨rfl, _, SqL.of h8⟩, ?_⟩
    refine g_appLam h8 T8 p8 (by simp) eN8 nf8 fun fs9 H9 eN9 T9 h9 p9 => ?_
    walk_at "gg"
    have R9 := R7.extN eN9
    refine ⟨(r, a, ns), _, rfl, R9, by omega, by omega, fun v10 H10 p10 q10 f10 R10 => ?_⟩
    obtain ⟨rs9, q9⟩ := R9.lst
    obtain ⟨rs10, q10'⟩ := R10.lst
    have h10 := f10 _ _ (nf8 _ _ q7' fun _ z => nomatch z) h9
    have pl10 := L2.Paired.mapP p9 fun _ _ z => LamsAt.fr q9 f10 z
    have ll10 : fs9.length = 5 := (Paired.length p9).trans (by rfl)
    have lt10 : v10.toNat < fs9.length := by omega
    have hx10 := List.getElem?_eq_getElem lt10
    refine g_ixL (SqL.of h10) (atI_of p10 hx10) ?_
    have tr10 := (TrT.extN eN9).trans (R9.tr f10)
    have dv10 := (dv7.extN eN9).fr q9 q10' f10
    have hw10 := hw7.tr tr10
    have hz10 := hz7.tr tr10
    have ht10 := ht7.tr tr10
    refine wr_callG T (i := 4) (C := T.e_BadTime) (word := "time") (Ex H10) pl10 hx10 ⟨rfl, T.x_BadTime, T.m_BadTime⟩ rfl rfl (fun _ _ g e => g.trans e) ?_ fun H11 e11 => ?_
    · generalize hσ : (List.set _ 8 (some (V.ref l8))) = σ0
      have s2 : σ0[2]? = some (some (.ref wa)) := by rw [← hσ]; rfl
      have s3 : σ0[3]? = some (some (.ref za)) := by rw [← hσ]; rfl
      have s4 : σ0[4]? = some (some (.ref ta)) := by rw [← hσ]; rfl
      have s7 : σ0[7]? = some (some bv) := by rw [← hσ]; rfl
      clear hσ
      refine ag_cons (fun E Q hE => ?_) (ag_cons (fun E Q hE => ?_) (ag_cons (fun E Q hE => ?_) (ag_cons (fun E Q hE => ?_) (ag_cons (fun E Q hE => ?_) ag_nil))))
      · exact ⟨_, s2, _, s3, _, s7, _, _, _, y, z, d, rfl, hw10, hz10, hg.ok, dv10, bad, hE⟩
      · exact ⟨_, s2, _, s3, _, s7, _, _, _, _, y, z, d, _, rfl, hw10, hz10, hg.ok, dv10, .non, .inl ⟨bad, hE⟩⟩
      · exact ⟨_, s2, _, s3, _, s7, _, _, _, _, y, z, d, _, rfl, hw10, hz10, hg.ok, dv10, .int 0, .inl bad, hE⟩
      · exact ⟨_, s2, _, s3, _, s4, _, s7, _, _, _, _, y, z, _, d, rfl, hw10, hz10, hg.ok, dav_of_pair ht10, dv10, .inr ⟨good, bad⟩, hE⟩
      · exact ⟨_, s2, _, s3, _, s4, _, s7, _, _, _, _, y, z, _, d, rfl, hw10, hz10, hg.ok, dav_of_pair ht10, dv10, .inr ⟨good, bad⟩, hE⟩
    walk_at "gg"
    refine ⟨_, _, _, y, z, d, rfl, hw10.tr (TrT.of e11), hz10.tr (TrT.of e11), hg.ok, dv10.ex e11, fun H12 e12 => ?_⟩
    rw [bad]
    walk_at "gg"
    have e112 := e11.trans e12
    refine ⟨_, _, _, y, z, _, rfl, hw10.tr (TrT.of e112), hz10.tr (TrT.of e112), hg.ok, dav_of_pair (ht10.tr (TrT.of e112)), fun H13 e13 => ?_⟩
    rw [good]
    walk_at "gg"
    have e113 := e112.trans e13
    exact hrest _ _ ⟨r, wa, y, _, z, _, t, _, _, _, _, _, _, rfl, R10.ex e113, hw10.tr (TrT.of e113), hz10.tr (TrT.of e113), hg.ok, ht10.tr (TrT.of e113), it, t1, t2, tabs_keep T9 q9 (f10.trans (Fr.of e113))⟩
  rintro σ14 H14 ⟨r, wa, y, zv, z, tv, t, x5, x6, x7, x8, x9, x10, rfl, R14, hw14, hz14, hok, ht14, it, t1, t2, T14⟩
  refine g_cut1 (P := InvL K a ns) (fun rest' hrest => ?_) ?_
  · refine g_ifS ?_
    walk_at "mm"
    refine ⟨T14, fun f H15 eN15 T15 nf15 la15 => ?_⟩
    have R15 := R14.extN eN15
    have tr15 : TrT K H14 H15 := TrT.extN eN15
    have good := isTmD_of it (by omega) (by omega) (by rcases IsTm.pass it with p | p; exact .inl p; exact .inr p.1)
    refine wr_callG T (i := 5) (C := T.e_BadDuration) (word := "duration") (fun H' => Fr r H15 H' ∧ Row K H' (r, a, ns)) (m := 0) (.cons ⟨f, rfl, la15⟩ .nil) rfl ⟨rfl, T.x_BadDuration, T.m_BadDuration⟩ rfl rfl (fun _ _ g e => ⟨g.1.trans (Fr.of e), g.2.ex e⟩) ?_ fun H16 g16 => ?_
    · refine ag_cons (fun E Q hE => ?_) ag_nil
      walk_at "gg"
      refine g_newT (by simp) fun p18 H18 n18 e18 h18 => ?_
      walk_at "gg"
      refine g_newL (by simp) fun l19 H19 n19 e19 h19 => ?_
      walk_at "gg"
      have e1819 := e18.trans e19
      obtain ⟨rsA, qA⟩ := R15.lst
      refine ⟨(r, a, ns), _, _, rfl, R15.ex e1819, h19, (ne_of_none (e18 _ _ qA) n19).symm, by simp, by simp, fun x HB mB fB RB => ?_⟩
      have RA' := R15.ex e1819
      have trB := (tr15.trans (TrT.of e1819)).trans (RA'.tr fB)
      obtain ⟨df, dfB, nf⟩ : ∃ d, DaV K HB x d ∧ betD d (-9000) 9000 = false := by
        simp only [List.mem_cons, List.not_mem_nil, or_false] at mB
        rcases mB with rfl | rfl | rfl | rfl | rfl | rfl
        · exact ⟨_, .non, rfl⟩
        · exact ⟨_, .int _, by decide +kernel⟩
        · exact ⟨_, .int _, by decide +kernel⟩
        · exact ⟨_, .bl _, rfl⟩
        · exact ⟨_, .str _, rfl⟩
        · exact ⟨_, dav_T rfl (RA'.tr fB _ _ (Evl.ex_t e19 (SqT.of h18))), rfl⟩
      exact ⟨_, _, _, _, y, z, _, df, rfl, hw14.tr trB, hz14.tr trB, hok, dav_of_pair (ht14.tr trB), dfB, .inr ⟨good, nf, fun H' e => hE H' ⟨((Fr.of e1819).trans fB).trans (Fr.of e), RB.ex e⟩⟩⟩
    walk_at "gg"
    have tr16 := tr15.trans (R15.tr g16.1)
    obtain ⟨rs15, q15⟩ := R15.lst
    exact hrest _ _ ⟨r, wa, y, _, z, _, t, _, _, _, _, _, _, rfl, g16.2, hw14.tr tr16, hz14.tr tr16, hok, ht14.tr tr16, it, t1, t2, tabs_keep T15 q15 g16.1⟩
  rintro σ20 H20 ⟨r, wa, y, zv, z, tv, t, x5, x6, x7, x8, x9, x10, rfl, R20, hw20, hz20, hok, ht20, it, t1, t2, T20⟩
  refine g_cut5 (P := InvL K a ns) (fun rest' hrest => ?_) ?_
  · walk_at "gg"
    refine g_newT (by simp) fun p21 H21 n21 e21 h21 => ?_
    walk_at "gg"
    refine g_newL (by simp) fun l22 H22 n22 e22 h22 => ?_
    walk_at "gg"
    have e2122 := e21.trans e22
    obtain ⟨rsA, qA⟩ := R20.lst
    refine ⟨(r, a, ns), _, _, rfl, R20.ex e2122, h22, (ne_of_none (e21 _ _ qA) n22).symm, by simp, by simp, fun x HB mB fB RB => ?_⟩
    have RA' := R20.ex e2122
    have trB := (TrT.of e2122).trans (RA'.tr fB)
    have TB' := tabs_keep T20 qA ((Fr.of e2122).trans fB)
    have hx : RuleD K HB x false := by
      simp only [List.mem_cons, List.not_mem_nil, or_false] at mB
      rcases mB with rfl | rfl | rfl | rfl | rfl | rfl
      · exact .inr ⟨rfl, .inr (.inr (.inr ⟨_, .non, rfl⟩))⟩
      · exact .inr ⟨rfl, .inl rfl⟩
      · exact .inr ⟨rfl, .inr (.inl rfl)⟩
      · exact .inr ⟨rfl, .inr (.inr (.inl rfl))⟩
      · exact .inr ⟨rfl, .inr (.inr (.inr ⟨_, .int _, rfl⟩))⟩
      · exact .inr ⟨rfl, .inr (.inr (.inr ⟨_, dav_T rfl (RA'.tr fB _ _ (Evl.ex_t e22 (SqT.of h21))), rfl⟩))⟩
    have hwB := hw20.tr trB
    have hzB := hz20.tr trB
    have htB := ht20.tr trB
    walk_at "mm"
    refine g_lams (evLs_cons (evLs_cons (evLs_cons (evLs_cons evLs_nil)))) TB' (by simp) fun l8 fs8 H8 eN8 nf8 T8 h8 p8 => ?_
    walk_at "mm"
    refine g_var (v := .ref l8) rfl ⟨.inl ⟨rfl, _, SqL.of h8⟩, ?_⟩
    refine g_appLam h8 T8 p8 (by simp) eN8 nf8 fun fs9 H9 eN9 T9 h9 p9 => ?_
    walk_at "mm"
    refine g_addLams h9 T9 p9 (evLs_cons evLs_nil) (by simp) fun l10 fs10 H10 eN10 nf10 T10 h10 p10 => ?_
    walk_at "gg"
    have eN := eN9.trans eN10
    have R10 := RB.extN eN
    refine ⟨(r, a, ns), _, rfl, R10, by omega, by omega, fun v11 H11 p11 q11 f11 R11 => ?_⟩
    obtain ⟨rs9, q9⟩ := (RB.extN eN9).lst
    obtain ⟨rs10, q10⟩ := R10.lst
    obtain ⟨rs11, q11'⟩ := R11.lst
    have h11 := f11 _ _ (nf10 _ _ q9 fun _ z => nomatch z) h10
    have pl11 := L2.Paired.mapP p10 fun _ _ z => LamsAt.fr q10 f11 z
    have ll11 : fs10.length = 6 := (Paired.length p10).trans (by rfl)
    have lt11 : v11.toNat < fs10.length := by omega
    have hx11 := List.getElem?_eq_getElem lt11
    refine g_ixL (SqL.of h11) (atI_of p11 hx11) ?_
    have tr11 := (TrT.extN eN).trans (R10.tr f11)
    have hw11 := hwB.tr tr11
    have hz11 := hzB.tr tr11
    have ht11 := htB.tr tr11
    have hr : RuleD K H11 x false := by
      obtain ⟨rsB, qB⟩ := RB.lst
      exact RuleD.map (fun d dv => (dv.extN eN).fr q10 q11' f11) hx
    refine wr_callG T (i := 6) (C := T.e_BadRule) (word := "rule") (Ex H11) pl11 hx11 ⟨rfl, T.x_BadRule, T.m_BadRule⟩ rfl rfl (fun _ _ g e => g.trans e) ?_ fun H12 e12 => ?_
    · refine ag_cons (fun E Q hE => ?_) (ag_cons (fun E Q hE => ?_) (ag_cons (fun E Q hE => ?_) (ag_cons (fun E Q hE => ?_) (ag_cons (fun E Q hE => ?_) (ag_cons (fun E Q hE => ?_) ag_nil)))))
      · exact ⟨_, rfl, _, rfl, hr, hE _ (Evl.Ex.refl _)⟩
      · exact ⟨_, rfl, _, rfl, _, rfl, _, _, _, _, y, z, rfl, hw11, hz11, hok, .inl ⟨hr, hE _ (Evl.Ex.refl _)⟩⟩
      · exact ⟨_, rfl, _, rfl, _, _, _, y, true, rfl, hw11, kind_both, .inr ⟨rfl, hr, hE _ (Evl.Ex.refl _)⟩⟩
      · exact ⟨_, rfl, _, rfl, _, _, _, y, true, rfl, hw11, kind_both, .inr ⟨rfl, hr, hE _ (Evl.Ex.refl _)⟩⟩
      · exact ⟨_, rfl, _, _, _, true, false, rfl, kind_skips, .inr ⟨rfl, hr, .inl ⟨rfl, hE _ (Evl.Ex.refl _)⟩⟩⟩
      · exact ⟨_, rfl, _, _, _, true, true, rfl, kind_skips, .inr ⟨rfl, .inl ⟨rfl, .later, rfl⟩, .inr ⟨rfl, hr, hE _ (Evl.Ex.refl _)⟩⟩⟩
    walk_at "gg"
    exact hrest _ _ ⟨r, wa, y, _, z, _, t, _, _, _, _, _, _, rfl, R11.ex e12, hw11.tr (TrT.of e12), hz11.tr (TrT.of e12), hok, ht11.tr (TrT.of e12), it, t1, t2, tabs_keep T10 q10 (f11.trans (Fr.of e12))⟩
  rintro σ30 H30 ⟨r, wa, y, zv, z, tv, t, x5, x6, x7, x8, x9, x10, rfl, R30, hw30, hz30, hok, ht30, it, t1, t2, T30⟩
  refine g_cut5 (P := InvL K a ns) (fun rest' hrest => ?_) ?_
  · walk_at "gg"
    refine g_newT (by simp) fun p21 H21 n21 e21 h21 => ?_
    walk_at "gg"
    refine g_newL (by simp) fun l22 H22 n22 e22 h22 => ?_
    walk_at "gg"
    have e2122 := e21.trans e22
    obtain ⟨rsA, qA⟩ := R30.lst
    refine ⟨(r, a, ns), _, _, rfl, R30.ex e2122, h22, (ne_of_none (e21 _ _ qA) n22).symm, by simp, by simp, fun x HB mB fB RB => ?_⟩
    have RA' := R30.ex e2122
    have trB := (TrT.of e2122).trans (RA'.tr fB)
    have TB' := tabs_keep T30 qA ((Fr.of e2122).trans fB)
    have hx : KindD K HB x false := by
      simp only [List.mem_cons, List.not_mem_nil, or_false] at mB
      rcases mB with rfl | rfl | rfl | rfl | rfl | rfl
      · exact ⟨_, .non, rfl, by decide +kernel, by decide +kernel⟩
      · exact ⟨_, .str _, rfl, by decide +kernel, by decide +kernel⟩
      · exact ⟨_, .str _, rfl, by decide +kernel, by decide +kernel⟩
      · exact ⟨_, .str _, rfl, by decide +kernel, by decide +kernel⟩
      · exact ⟨_, .int _, rfl, by decide +kernel, by decide +kernel⟩
      · exact ⟨_, .tup (RA'.tr fB _ _ (Evl.ex_t e22 (SqT.of h21))) (.cons (.str _) .nil), rfl, by decide +kernel, by decide +kernel⟩
    have hwB := hw30.tr trB
    have hzB := hz30.tr trB
    have htB := ht30.tr trB
    walk_at "mm"
    refine g_lams (evLs_cons (evLs_cons (evLs_cons (evLs_cons (evLs_cons evLs_nil))))) TB' (by simp) fun l8 fs8 H8 eN8 nf8 T8 h8 p8 => ?_
    walk_at "mm"
    refine g_var (v := .ref l8) rfl ⟨.inl ⟨rfl, _, SqL.of h8⟩, ?_⟩
    refine g_appLam h8 T8 p8 (by simp) eN8 nf8 fun fs9 H9 eN9 T9 h9 p9 => ?_
    walk_at "mm"
    refine g_addLams h9 T9 p9 (evLs_cons evLs_nil) (by simp) fun l10 fs10 H10 eN10 nf10 T10 h10 p10 => ?_
    walk_at "gg"
    have eN := eN9.trans eN10
    have R10 := RB.extN eN
    refine ⟨(r, a, ns), _, rfl, R10, by omega, by omega, fun v11 H11 p11 q11 f11 R11 => ?_⟩
    obtain ⟨rs9, q9⟩ := (RB.extN eN9).lst
    obtain ⟨rs10, q10⟩ := R10.lst
    obtain ⟨rs11, q11'⟩ := R11.lst
    have h11 := f11 _ _ (nf10 _ _ q9 fun _ z => nomatch z) h10
    have pl11 := L2.Paired.mapP p10 fun _ _ z => LamsAt.fr q10 f11 z
    have ll11 : fs10.length = 7 := (Paired.length p10).trans (by rfl)
    have lt11 : v11.toNat < fs10.length := by omega
    have hx11 := List.getElem?_eq_getElem lt11
    refine g_ixL (SqL.of h11) (atI_of p11 hx11) ?_
    have tr11 := (TrT.extN eN).trans (R10.tr f11)
    have hw11 := hwB.tr tr11
    have hz11 := hzB.tr tr11
    have ht11 := htB.tr tr11
    have hr : KindD K H11 x false := KindD.tr tr11 hx
    refine wr_callG T (i := 8) (C := T.e_BadKind) (word := "kind") (Ex H11) pl11 hx11 ⟨rfl, T.x_BadKind, T.m_BadKind⟩ rfl rfl (fun _ _ g e => g.trans e) ?_ fun H12 e12 => ?_
    · refine ag_cons (fun E Q hE => ?_) (ag_cons (fun E Q hE => ?_) (ag_cons (fun E Q hE => ?_) (ag_cons (fun E Q hE => ?_) (ag_cons (fun E Q hE => ?_) (ag_cons (fun E Q hE => ?_) (ag_cons (fun E Q hE => ?_) ag_nil))))))
      · exact ⟨_, rfl, _, rfl, _, _, _, y, false, rfl, hw11, hr, .inl ⟨rfl, hE _ (Evl.Ex.refl _)⟩⟩
      · exact ⟨_, rfl, _, rfl, _, _, _, y, false, rfl, hw11, hr, .inl ⟨rfl, hE _ (Evl.Ex.refl _)⟩⟩
      · exact ⟨_, rfl, _, rfl, _, _, y, rfl, hw11, hr, hE _ (Evl.Ex.refl _)⟩
      · exact ⟨_, rfl, _, _, _, false, false, rfl, hr, .inl ⟨rfl, hE _ (Evl.Ex.refl _)⟩⟩
      · exact ⟨_, rfl, _, _, _, false, false, rfl, hr, .inl ⟨rfl, hE _ (Evl.Ex.refl _)⟩⟩
      · exact ⟨_, rfl, _, _, rfl, hr, hE _ (Evl.Ex.refl _)⟩
      · exact ⟨_, rfl, _, rfl, hr, hE _ (Evl.Ex.refl _)⟩
    walk_at "gg"
    exact hrest _ _ ⟨r, wa, y, _, z, _, t, _, _, _, _, _, _, rfl, R11.ex e12, hw11.tr (TrT.of e12), hz11.tr (TrT.of e12), hok, ht11.tr (TrT.of e12), it, t1, t2, tabs_keep T10 q10 (f11.trans (Fr.of e12))⟩
  rintro σ40 H40 ⟨r, wa, y, zv, z, tv, t, x5, x6, x7, x8, x9, x10, rfl, R40, hw40, hz40, hok, ht40, it, t1, t2, T40⟩
  walk_at "gg"
  refine ⟨rfl, fun p41 H41 n41 e41 h41 => ?_⟩
  walk_at "gg"
  obtain ⟨rs40, q40⟩ := R40.lst
  refine ⟨(r, a, ns), _, _, rfl, R40.ex e41, h41, (ne_of_none q40 n41).symm, by decide +kernel, by decide +kernel, fun x H42 m42 f42 R42 => ?_⟩
  obtain ⟨rl, _, rfl⟩ := List.mem_map.mp m42
  have tr42 := (TrT.of e41).trans ((R40.ex e41).tr f42)
  walk_at "gg"
  refine ⟨(r, a, ns), _, _, y, z, rl, rfl, R42, hw40.tr tr42, hz40.tr tr42, OkZ.of hok, fun p43 xs43 its H43 f43 R43 hp43 pvs43 po43 => ?_⟩
  have tr43 := tr42.trans (R42.tr f43)
  have ld : (its.map dIt).length = (shapeR rl).length := by
    rw [List.length_map]
    exact (pd_len po43).symm
  have pd43 : Paired (DaV K H43) xs43 (its.map dIt) := by
    have key : ∀ {xs : List V} {its : List It}, Paired (ItV K H43) xs its → Paired (DaV K H43) xs (its.map dIt) := fun h => by
      induction h with
      | nil => exact .nil
      | cons r _ ih => exact .cons (dav_it r) ih
    exact key pvs43
  have l3 := shape_few rl
  have l0 := shape_pos rl
  walk_at "mm"
  generalize its.map dIt = ds at ld pd43
  obtain ⟨d0, ds0, hds⟩ : ∃ d0 ds0, ds = d0 :: ds0 := by
    cases ds with
    | nil => simp at ld; omega
    | cons d0 ds0 => exact ⟨d0, ds0, rfl⟩
  refine g_dlst (K := K) (ds := oddG ds) ?_ (by exact (by decide : 8 ≤ 1000)) fun l44 xs44 H44 n44 e44 h44 p44 => ?_
  · have V : ∀ {σ : L2.St}, σ[10]? = some (some (.ref p43)) → EvA K σ H43 (tVar 10) ds := fun e => evA_var e hp43 pd43
    have V0 : ∀ {σ : L2.St}, σ[10]? = some (some (.ref p43)) → EvA K σ H43 (tVar 10) (d0 :: ds0) := fun e => by
      have := V e
      rw [hds] at this
      exact this
    have lt : (ds.take (ds.length - 1)).length ≤ 3 := by rw [List.length_take]; omega
    have l0' : ds0.length + 1 = ds.length := by rw [hds, List.length_cons]
    refine evDs_cons evD_non (evDs_cons (evD_tup evDs_nil (by decide)) (evDs_cons (evD_listA (V rfl)) (evDs_cons (evD_A ?_) (evDs_cons (evD_A (evA_init (V rfl) (by omega))) (evDs_cons (evD_A ?_)
      (evDs_cons (evD_A (evA_catA (evA_init (V rfl) (by omega)) (evA_lit (evDs_cons evD_bl evDs_nil) (by simp)) (by simp) (by simp; omega)))
      (evDs_cons (evD_A (evA_catA (evA_init (V rfl) (by omega)) (evA_lit (evDs_cons evD_int evDs_nil) (by simp)) (by simp) (by simp; omega))) evDs_nil)))))))
    · rw [hds]
      refine evA_catT (d := d0) (ds := ds0) (V0 ?_) (evA_lit (evDs_cons evD_int evDs_nil) (by simp)) (by simp; omega)
      rfl
    · rw [hds]
      refine evA_catT (ds := []) (evA_lit (evDs_cons evD_non evDs_nil) (by simp)) (evA_tail (V0 ?_)) (by simp; omega)
      rfl
  walk_at "gg"
  obtain ⟨rs43, q43⟩ := R43.lst
  have l8 : xs44.length = 8 := (Paired.length p44).trans (by rfl)
  refine ⟨(r, a, ns), _, _, rfl, R43.ex e44, h44, (ne_of_none q43 n44).symm, by omega, by omega, fun x H45 m45 f45 R45 => ?_⟩
  obtain ⟨i45, hi45⟩ := List.getElem?_of_mem m45
  obtain ⟨d, hd, dv44⟩ := pd_get p44 hi45
  obtain ⟨rs44, q44⟩ := (R43.ex e44).lst
  obtain ⟨rs45, q45⟩ := R45.lst
  have dv45 := dv44.fr q44 q45 f45
  have bad := oddG_bad (w := y) (z := z) ld l0 d (List.mem_of_getElem? hd)
  have tr45 := (tr43.trans (TrT.of e44)).trans ((R43.ex e44).tr f45)
  have T45 := tabs_keep T40 q40 ((((Fr.of e41).trans f42).trans f43).trans ((Fr.of e44).trans f45))
  walk_at "mm"
  refine ⟨T45, fun f H46 eN46 T46 nf46 la46 => ?_⟩
  have tr46 := tr45.trans (TrT.extN eN46)
  refine wr_callG T (i := 7) (C := T.e_BadArguments) (word := "arguments") (Ex H46) (m := 0) (.cons ⟨f, rfl, la46⟩ .nil) rfl ⟨rfl, T.x_BadArguments, T.m_BadArguments⟩ rfl rfl (fun _ _ g e => g.trans e) ?_ fun H47 e47 => ?_
  · refine ag_cons (fun E Q hE => ?_) ag_nil
    exact ⟨_, rfl, _, rfl, _, rfl, _, rfl, _, _, _, _, y, z, rfl, hw40.tr tr46, hz40.tr tr46, hok, .inr ⟨rl, d, rfl, dv45.extN eN46, bad, hE⟩⟩
  walk_at "gg"
  exact k _
end
end
end TH
set_option maxHeartbeats 0
namespace TH
open PySem PySem.Spec PyProof.Rows L2
theorem facts {P : Program} {w : World} {K : PySem.W.Frag} {h : Heap} {mg : Str → Option Value} {f : Addr} (X : K.In h) (G : h.Ns mainGlobals mg) (hfa : mg ("law" : Str) = some (.ref f)) (c : He.SaysX fa fn ts tfs (psB ps) w h K) :
    ∃ fd : FuncData, (∀ (s : Shared) (v : Value), BindsTo s fd ⟨[v], []⟩ [("script", v)]) ∧ ∀ base : Heap, K.In base → base.Ns mainGlobals mg → LamX.TabB base mg (He.cT K ("law", none)).1 (He.cT K ("law", none)).2 → FnOk P w K mg base CX0 13 f fd ["script"] (sp_lawT K) := by
  have cp : ∀ (i : Nat) {p : PySem.W.Frag → Bool}, ps[i]? = some p → p K = true := fun i p hp => psB_at c.more hp
  obtain ⟨fd0, F0⟩ := c.t.d.def_ 0 (d := d_offset_in_force) rfl
  have b0 : Binds K fd0 ["zone", "instant"] [] := FunD.bindsN F0 fun _ _ _ _ _ _ us hl => match us, hl with | [_, _], _ => rfl
  obtain ⟨fd1, F1⟩ := c.t.d.def_ 1 (d := d_instants_with) rfl
  have b1 : Binds K fd1 ["zone", "reading"] [] := FunD.bindsN F1 fun _ _ _ _ _ _ us hl => match us, hl with | [_, _], _ => rfl
  obtain ⟨fd2, F2⟩ := c.t.d.def_ 2 (d := d_passes_at) rfl
  have b2 : Binds K fd2 ["library", "zone", "reading"] [] := FunD.bindsN F2 fun _ _ _ _ _ _ us hl => match us, hl with | [_, _, _], _ => rfl
  obtain ⟨fd3, F3⟩ := c.t.d.def_ 3 (d := d_is_between) rfl
  have b3 : Binds K fd3 ["value", "low", "high"] [] := FunD.bindsN F3 fun _ _ _ _ _ _ us hl => match us, hl with | [_, _, _], _ => rfl
  obtain ⟨fd4, F4⟩ := c.t.d.def_ 4 (d := d_is_tuple_of) rfl
  have b4 : Binds K fd4 ["many", "value"] [] := FunD.bindsN F4 fun _ _ _ _ _ _ us hl => match us, hl with | [_, _], _ => rfl
  obtain ⟨fd5, F5⟩ := c.t.d.def_ 5 (d := d_is_instant) rfl
  have b5 : Binds K fd5 ["value"] [] := FunD.bindsN F5 fun _ _ _ _ _ _ us hl => match us, hl with | [_], _ => rfl
  obtain ⟨fd6, F6⟩ := c.t.d.def_ 6 (d := d_is_reading) rfl
  have b6 : Binds K fd6 ["value"] [] := FunD.bindsN F6 fun _ _ _ _ _ _ us hl => match us, hl with | [_], _ => rfl
  obtain ⟨fd7, F7⟩ := c.t.d.def_ 7 (d := d_is_duration) rfl
  have b7 : Binds K fd7 ["value"] [] := FunD.bindsN F7 fun _ _ _ _ _ _ us hl => match us, hl with | [_], _ => rfl
  obtain ⟨fd8, F8⟩ := c.t.d.def_ 8 (d := d_is_zone) rfl
  have b8 : Binds K fd8 ["value"] [] := FunD.bindsN F8 fun _ _ _ _ _ _ us hl => match us, hl with | [_], _ => rfl
  obtain ⟨fd9, F9⟩ := c.t.d.def_ 9 (d := d_are_changes_after) rfl
  have b9 : Binds K fd9 ["offset", "changes"] [] := FunD.bindsN F9 fun _ _ _ _ _ _ us hl => match us, hl with | [_, _], _ => rfl
  obtain ⟨fd10, F10⟩ := c.t.d.def_ 10 (d := d_is_change_after) rfl
  have b10 : Binds K fd10 ["before", "earliest", "value"] [] := FunD.bindsN F10 fun _ _ _ _ _ _ us hl => match us, hl with | [_, _, _], _ => rfl
  obtain ⟨fd11, F11⟩ := c.t.d.def_ 11 (d := d_check_zone) rfl
  have b11 : Binds K fd11 ["value"] [] := FunD.bindsN F11 fun _ _ _ _ _ _ us hl => match us, hl with | [_], _ => rfl
  obtain ⟨fd12, F12⟩ := c.t.d.def_ 12 (d := d_is_library) rfl
  have b12 : Binds K fd12 ["value"] [] := FunD.bindsN F12 fun _ _ _ _ _ _ us hl => match us, hl with | [_], _ => rfl
  obtain ⟨fd13, F13⟩ := c.t.d.def_ 13 (d := d_check_library) rfl
  have b13 : Binds K fd13 ["value"] [] := FunD.bindsN F13 fun _ _ _ _ _ _ us hl => match us, hl with | [_], _ => rfl
  obtain ⟨fd14, F14⟩ := c.t.d.def_ 14 (d := d_is_time) rfl
  have b14 : Binds K fd14 ["library", "zone", "value"] [] := FunD.bindsN F14 fun _ _ _ _ _ _ us hl => match us, hl with | [_, _, _], _ => rfl
  obtain ⟨fd15, F15⟩ := c.t.d.def_ 15 (d := d_check_time) rfl
  have b15 : Binds K fd15 ["library", "zone", "value"] [] := FunD.bindsN F15 fun _ _ _ _ _ _ us hl => match us, hl with | [_, _, _], _ => rfl
  obtain ⟨fd16, F16⟩ := c.t.d.def_ 16 (d := d_to_instant) rfl
  have b16 : Binds K fd16 ["library", "zone", "time"] [] := FunD.bindsN F16 fun _ _ _ _ _ _ us hl => match us, hl with | [_, _, _], _ => rfl
  obtain ⟨fd17, F17⟩ := c.t.d.def_ 17 (d := d_is_rule) rfl
  have b17 : Binds K fd17 ["value"] [] := FunD.bindsN F17 fun _ _ _ _ _ _ us hl => match us, hl with | [_], _ => rfl
  obtain ⟨fd18, F18⟩ := c.t.d.def_ 18 (d := d_check_rule) rfl
  have b18 : Binds K fd18 ["value"] [] := FunD.bindsN F18 fun _ _ _ _ _ _ us hl => match us, hl with | [_], _ => rfl
  obtain ⟨fd19, F19⟩ := c.t.d.def_ 19 (d := d_shape) rfl
  have b19 : Binds K fd19 ["rule"] [] := FunD.bindsN F19 fun _ _ _ _ _ _ us hl => match us, hl with | [_], _ => rfl
  obtain ⟨fd20, F20⟩ := c.t.d.def_ 20 (d := d_holds_for) rfl
  have b20 : Binds K fd20 ["library", "zone", "rule", "arguments"] [] := FunD.bindsN F20 fun _ _ _ _ _ _ us hl => match us, hl with | [_, _, _, _], _ => rfl
  obtain ⟨fd21, F21⟩ := c.t.d.def_ 21 (d := d_are_arguments) rfl
  have b21 : Binds K fd21 ["library", "zone", "words", "value"] [] := FunD.bindsN F21 fun _ _ _ _ _ _ us hl => match us, hl with | [_, _, _, _], _ => rfl
  obtain ⟨fd22, F22⟩ := c.t.d.def_ 22 (d := d_is_argument) rfl
  have b22 : Binds K fd22 ["library", "zone", "word", "value"] [] := FunD.bindsN F22 fun _ _ _ _ _ _ us hl => match us, hl with | [_, _, _, _], _ => rfl
  obtain ⟨fd23, F23⟩ := c.t.d.def_ 23 (d := d_check_kind) rfl
  have b23 : Binds K fd23 ["value"] [] := FunD.bindsN F23 fun _ _ _ _ _ _ us hl => match us, hl with | [_], _ => rfl
  obtain ⟨fd24, F24⟩ := c.t.d.def_ 24 (d := d_holds) rfl
  have b24 : Binds K fd24 ["library", "kind", "rule"] [] := FunD.bindsN F24 fun _ _ _ _ _ _ us hl => match us, hl with | [_, _, _], _ => rfl
  obtain ⟨fd25, F25⟩ := c.t.d.def_ 25 (d := d_counterexample) rfl
  have b25 : Binds K fd25 ["library", "kind", "rule"] [] := FunD.bindsN F25 fun _ _ _ _ _ _ us hl => match us, hl with | [_, _, _], _ => rfl
  obtain ⟨fd26, F26⟩ := c.t.d.def_ 26 (d := d_profile) rfl
  have b26 : Binds K fd26 ["library", "kind"] [] := FunD.bindsN F26 fun _ _ _ _ _ _ us hl => match us, hl with | [_, _], _ => rfl
  obtain ⟨fd27, F27⟩ := c.t.d.def_ 27 (d := d_implies) rfl
  have b27 : Binds K fd27 ["kind", "one", "other"] [] := FunD.bindsN F27 fun _ _ _ _ _ _ us hl => match us, hl with | [_, _, _], _ => rfl
  obtain ⟨fd28, F28⟩ := c.t.d.def_ 28 (d := d_parting) rfl
  have b28 : Binds K fd28 ["kind", "one", "other"] [] := FunD.bindsN F28 fun _ _ _ _ _ _ us hl => match us, hl with | [_, _, _], _ => rfl
  obtain ⟨fd29, F29⟩ := c.t.d.def_ 29 (d := d_libraries_with) rfl
  have b29 : Binds K fd29 ["kind", "wanted"] [] := FunD.bindsN F29 fun _ _ _ _ _ _ us hl => match us, hl with | [_, _], _ => rfl
  obtain ⟨fd30, F30⟩ := c.t.d.def_ 30 (d := d_most_rules) rfl
  have b30 : Binds K fd30 ["kind"] [] := FunD.bindsN F30 fun _ _ _ _ _ _ us hl => match us, hl with | [_], _ => rfl
  obtain ⟨fd31, F31⟩ := c.t.d.def_ 31 (d := d_check_duration) rfl
  have b31 : Binds K fd31 ["value"] [] := FunD.bindsN F31 fun _ _ _ _ _ _ us hl => match us, hl with | [_], _ => rfl
  obtain ⟨fd32, F32⟩ := c.t.d.def_ 32 (d := d_add) rfl
  have b32 : Binds K fd32 ["library", "zone", "time", "duration"] [] := FunD.bindsN F32 fun _ _ _ _ _ _ us hl => match us, hl with | [_, _, _, _], _ => rfl
  obtain ⟨fd33, F33⟩ := c.t.d.def_ 33 (d := d_subtract) rfl
  have b33 : Binds K fd33 ["library", "zone", "one", "other"] [] := FunD.bindsN F33 fun _ _ _ _ _ _ us hl => match us, hl with | [_, _, _, _], _ => rfl
  obtain ⟨fd34, F34⟩ := c.t.d.def_ 34 (d := d_compare) rfl
  have b34 : Binds K fd34 ["library", "zone", "one", "other"] [] := FunD.bindsN F34 fun _ _ _ _ _ _ us hl => match us, hl with | [_, _, _, _], _ => rfl
  obtain ⟨fd35, F35⟩ := c.t.d.def_ 35 (d := d_law_taken) rfl
  have b35 : Binds K fd35 ["row", "many"] [] := FunD.bindsN F35 fun _ _ _ _ _ _ us hl => match us, hl with | [_, _], _ => rfl
  obtain ⟨fd36, F36⟩ := c.t.d.def_ 36 (d := d_law_pick) rfl
  have b36 : Binds K fd36 ["row", "kinds"] [] := FunD.bindsN F36 fun _ _ _ _ _ _ us hl => match us, hl with | [_, _], _ => rfl
  obtain ⟨fd37, F37⟩ := c.t.d.def_ 37 (d := d_law_zone) rfl
  have b37 : Binds K fd37 ["row", "kind"] [] := FunD.bindsN F37 fun _ _ _ _ _ _ us hl => match us, hl with | [_, _], _ => rfl
  obtain ⟨fd38, F38⟩ := c.t.d.def_ 38 (d := d_law_library) rfl
  have b38 : Binds K fd38 ["row"] [] := FunD.bindsN F38 fun _ _ _ _ _ _ us hl => match us, hl with | [_], _ => rfl
  obtain ⟨fd39, F39⟩ := c.t.d.def_ 39 (d := d_law_offset) rfl
  have b39 : Binds K fd39 ["zone", "instant"] [] := FunD.bindsN F39 fun _ _ _ _ _ _ us hl => match us, hl with | [_, _], _ => rfl
  obtain ⟨fd40, F40⟩ := c.t.d.def_ 40 (d := d_law_instants) rfl
  have b40 : Binds K fd40 ["zone", "reading"] [] := FunD.bindsN F40 fun _ _ _ _ _ _ us hl => match us, hl with | [_, _], _ => rfl
  obtain ⟨fd41, F41⟩ := c.t.d.def_ 41 (d := d_law_times) rfl
  have b41 : Binds K fd41 ["way", "zone", "reading"] [] := FunD.bindsN F41 fun _ _ _ _ _ _ us hl => match us, hl with | [_, _, _], _ => rfl
  obtain ⟨fd42, F42⟩ := c.t.d.def_ 42 (d := d_law_rules) rfl
  have b42 : Binds K fd42 [] [] := FunD.bindsN F42 fun _ _ _ _ _ _ us hl => match us, hl with | [], _ => rfl
  obtain ⟨fd43, F43⟩ := c.t.d.def_ 43 (d := d_law_shape) rfl
  have b43 : Binds K fd43 ["rule"] [] := FunD.bindsN F43 fun _ _ _ _ _ _ us hl => match us, hl with | [_], _ => rfl
  obtain ⟨fd44, F44⟩ := c.t.d.def_ 44 (d := d_law_spot) rfl
  have b44 : Binds K fd44 ["row", "zone"] [] := FunD.bindsN F44 fun _ _ _ _ _ _ us hl => match us, hl with | [_, _], _ => rfl
  obtain ⟨fd45, F45⟩ := c.t.d.def_ 45 (d := d_law_time) rfl
  have b45 : Binds K fd45 ["row", "way", "zone"] [] := FunD.bindsN F45 fun _ _ _ _ _ _ us hl => match us, hl with | [_, _, _], _ => rfl
  obtain ⟨fd46, F46⟩ := c.t.d.def_ 46 (d := d_law_hours) rfl
  have b46 : Binds K fd46 ["row"] [] := FunD.bindsN F46 fun _ _ _ _ _ _ us hl => match us, hl with | [_], _ => rfl
  obtain ⟨fd47, F47⟩ := c.t.d.def_ 47 (d := d_law_arguments) rfl
  have b47 : Binds K fd47 ["row", "way", "zone", "rule"] [] := FunD.bindsN F47 fun _ _ _ _ _ _ us hl => match us, hl with | [_, _, _, _], _ => rfl
  obtain ⟨fd48, F48⟩ := c.t.d.def_ 48 (d := d_law_wrong) rfl
  have b48 : Binds K fd48 ["work"] [] := FunD.bindsN F48 fun _ _ _ _ _ _ us hl => match us, hl with | [_], _ => rfl
  obtain ⟨fd49, F49⟩ := c.t.d.def_ 49 (d := d_law) rfl
  have b49 : Binds K fd49 ["script"] [] := FunD.bindsN F49 fun _ _ _ _ _ _ us hl => match us, hl with | [_], _ => rfl
  obtain ⟨u2, g2⟩ := He.int_ok X G (c.t.d.fact 75 (f := .int "MOST_INSTANT" 100000) rfl)
  obtain ⟨u3, g3⟩ := He.int_ok X G (c.t.d.fact 76 (f := .int "MOST_READING" 90000) rfl)
  obtain ⟨u4, g4⟩ := He.int_ok X G (c.t.d.fact 77 (f := .int "MOST_DURATION" 9000) rfl)
  obtain ⟨u5, g5⟩ := He.int_ok X G (c.t.d.fact 78 (f := .int "MOST_FIRST_OFFSET" 12) rfl)
  obtain ⟨u6, g6⟩ := He.int_ok X G (c.t.d.fact 79 (f := .int "MOST_CHANGES" 8) rfl)
  obtain ⟨u7, g7⟩ := He.int_ok X G (c.t.d.fact 80 (f := .int "MOST_CHANGE_INSTANT" 1000) rfl)
  obtain ⟨u8, g8⟩ := He.int_ok X G (c.t.d.fact 81 (f := .int "LEAST_DISTANCE" 12) rfl)
  obtain ⟨u9, g9⟩ := He.int_ok X G (c.t.d.fact 82 (f := .int "MOST_STEP" 3) rfl)
  obtain ⟨u10, g10⟩ := He.int_ok X G (c.t.d.fact 83 (f := .int "MOST_LATER_OFFSET" 15) rfl)
  obtain ⟨u16, g16⟩ := He.int_ok X G (c.t.d.fact 89 (f := .int "MOST_DURATION_OF_RULES" 4000) rfl)
  let T : Txt w K mg := ⟨⟨_, fd0, F0, b0, He.glo_ok X G (c.t.d.fact 0 (f := .glo "offset_in_force") rfl)⟩,
    ⟨_, fd1, F1, b1, He.glo_ok X G (c.t.d.fact 1 (f := .glo "instants_with") rfl)⟩,
    ⟨_, fd2, F2, b2, He.glo_ok X G (c.t.d.fact 2 (f := .glo "passes_at") rfl)⟩,
    ⟨_, fd3, F3, b3, He.glo_ok X G (c.t.d.fact 3 (f := .glo "is_between") rfl)⟩,
    ⟨_, fd4, F4, b4, He.glo_ok X G (c.t.d.fact 4 (f := .glo "is_tuple_of") rfl)⟩,
    ⟨_, fd5, F5, b5, He.glo_ok X G (c.t.d.fact 5 (f := .glo "is_instant") rfl)⟩,
    ⟨_, fd6, F6, b6, He.glo_ok X G (c.t.d.fact 6 (f := .glo "is_reading") rfl)⟩,
    ⟨_, fd7, F7, b7, He.glo_ok X G (c.t.d.fact 7 (f := .glo "is_duration") rfl)⟩,
    ⟨_, fd8, F8, b8, He.glo_ok X G (c.t.d.fact 8 (f := .glo "is_zone") rfl)⟩,
    ⟨_, fd9, F9, b9, He.glo_ok X G (c.t.d.fact 9 (f := .glo "_are_changes_after") rfl)⟩,
    ⟨_, fd10, F10, b10, He.glo_ok X G (c.t.d.fact 10 (f := .glo "_is_change_after") rfl)⟩,
    ⟨_, fd11, F11, b11, He.glo_ok X G (c.t.d.fact 11 (f := .glo "check_zone") rfl)⟩,
    ⟨_, fd12, F12, b12, He.glo_ok X G (c.t.d.fact 12 (f := .glo "is_library") rfl)⟩,
    ⟨_, fd13, F13, b13, He.glo_ok X G (c.t.d.fact 13 (f := .glo "check_library") rfl)⟩,
    ⟨_, fd14, F14, b14, He.glo_ok X G (c.t.d.fact 14 (f := .glo "is_time") rfl)⟩,
    ⟨_, fd15, F15, b15, He.glo_ok X G (c.t.d.fact 15 (f := .glo "check_time") rfl)⟩,
    ⟨_, fd16, F16, b16, He.glo_ok X G (c.t.d.fact 16 (f := .glo "to_instant") rfl)⟩,
    ⟨_, fd17, F17, b17, He.glo_ok X G (c.t.d.fact 17 (f := .glo "is_rule") rfl)⟩,
    ⟨_, fd18, F18, b18, He.glo_ok X G (c.t.d.fact 18 (f := .glo "check_rule") rfl)⟩,
    ⟨_, fd19, F19, b19, He.glo_ok X G (c.t.d.fact 19 (f := .glo "shape") rfl)⟩,
    ⟨_, fd20, F20, b20, He.glo_ok X G (c.t.d.fact 20 (f := .glo "holds_for") rfl)⟩,
    ⟨_, fd21, F21, b21, He.glo_ok X G (c.t.d.fact 21 (f := .glo "_are_arguments") rfl)⟩,
    ⟨_, fd22, F22, b22, He.glo_ok X G (c.t.d.fact 22 (f := .glo "_is_argument") rfl)⟩,
    ⟨_, fd23, F23, b23, He.glo_ok X G (c.t.d.fact 23 (f := .glo "check_kind") rfl)⟩,
    ⟨_, fd24, F24, b24, He.glo_ok X G (c.t.d.fact 24 (f := .glo "holds") rfl)⟩,
    ⟨_, fd25, F25, b25, He.glo_ok X G (c.t.d.fact 25 (f := .glo "counterexample") rfl)⟩,
    ⟨_, fd26, F26, b26, He.glo_ok X G (c.t.d.fact 26 (f := .glo "profile") rfl)⟩,
    ⟨_, fd27, F27, b27, He.glo_ok X G (c.t.d.fact 27 (f := .glo "implies") rfl)⟩,
    ⟨_, fd28, F28, b28, He.glo_ok X G (c.t.d.fact 28 (f := .glo "parting") rfl)⟩,
    ⟨_, fd29, F29, b29, He.glo_ok X G (c.t.d.fact 29 (f := .glo "libraries_with") rfl)⟩,
    ⟨_, fd30, F30, b30, He.glo_ok X G (c.t.d.fact 30 (f := .glo "most_rules") rfl)⟩,
    ⟨_, fd31, F31, b31, He.glo_ok X G (c.t.d.fact 31 (f := .glo "check_duration") rfl)⟩,
    ⟨_, fd32, F32, b32, He.glo_ok X G (c.t.d.fact 32 (f := .glo "add") rfl)⟩,
    ⟨_, fd33, F33, b33, He.glo_ok X G (c.t.d.fact 33 (f := .glo "subtract") rfl)⟩,
    ⟨_, fd34, F34, b34, He.glo_ok X G (c.t.d.fact 34 (f := .glo "compare") rfl)⟩,
    ⟨_, fd35, F35, b35, He.glo_ok X G (c.t.d.fact 35 (f := .glo "_law_taken") rfl)⟩,
    ⟨_, fd36, F36, b36, He.glo_ok X G (c.t.d.fact 36 (f := .glo "_law_pick") rfl)⟩,
    ⟨_, fd37, F37, b37, He.glo_ok X G (c.t.d.fact 37 (f := .glo "_law_zone") rfl)⟩,
    ⟨_, fd38, F38, b38, He.glo_ok X G (c.t.d.fact 38 (f := .glo "_law_library") rfl)⟩,
    ⟨_, fd39, F39, b39, He.glo_ok X G (c.t.d.fact 39 (f := .glo "_law_offset") rfl)⟩,
    ⟨_, fd40, F40, b40, He.glo_ok X G (c.t.d.fact 40 (f := .glo "_law_instants") rfl)⟩,
    ⟨_, fd41, F41, b41, He.glo_ok X G (c.t.d.fact 41 (f := .glo "_law_times") rfl)⟩,
    ⟨_, fd42, F42, b42, He.glo_ok X G (c.t.d.fact 42 (f := .glo "_law_rules") rfl)⟩,
    ⟨_, fd43, F43, b43, He.glo_ok X G (c.t.d.fact 43 (f := .glo "_law_shape") rfl)⟩,
    ⟨_, fd44, F44, b44, He.glo_ok X G (c.t.d.fact 44 (f := .glo "_law_spot") rfl)⟩,
    ⟨_, fd45, F45, b45, He.glo_ok X G (c.t.d.fact 45 (f := .glo "_law_time") rfl)⟩,
    ⟨_, fd46, F46, b46, He.glo_ok X G (c.t.d.fact 46 (f := .glo "_law_hours") rfl)⟩,
    ⟨_, fd47, F47, b47, He.glo_ok X G (c.t.d.fact 47 (f := .glo "_law_arguments") rfl)⟩,
    ⟨_, fd48, F48, b48, He.glo_ok X G (c.t.d.fact 48 (f := .glo "_law_wrong") rfl)⟩,
    ⟨_, fd49, F49, b49, He.glo_ok X G (c.t.d.fact 49 (f := .glo "law") rfl)⟩,
    gaF "TimeError" K,
    He.glo_ok X G (c.t.d.fact 50 (f := .glo "TimeError") rfl),
    gaF "BadZone" K,
    He.glo_ok X G (c.t.d.fact 51 (f := .glo "BadZone") rfl),
    errB_ok (cp 36 (p := errB (gaF "BadZone")) rfl),
    of_decide_eq_true (cp 37 (p := excB (gaF "BadZone") (gaF "TimeError")) rfl),
    gaF "BadInstant" K,
    He.glo_ok X G (c.t.d.fact 52 (f := .glo "BadInstant") rfl),
    errB_ok (cp 38 (p := errB (gaF "BadInstant")) rfl),
    of_decide_eq_true (cp 39 (p := excB (gaF "BadInstant") (gaF "TimeError")) rfl),
    gaF "BadReading" K,
    He.glo_ok X G (c.t.d.fact 53 (f := .glo "BadReading") rfl),
    errB_ok (cp 40 (p := errB (gaF "BadReading")) rfl),
    of_decide_eq_true (cp 41 (p := excB (gaF "BadReading") (gaF "TimeError")) rfl),
    gaF "BadLibrary" K,
    He.glo_ok X G (c.t.d.fact 54 (f := .glo "BadLibrary") rfl),
    errB_ok (cp 42 (p := errB (gaF "BadLibrary")) rfl),
    of_decide_eq_true (cp 43 (p := excB (gaF "BadLibrary") (gaF "TimeError")) rfl),
    gaF "BadTime" K,
    He.glo_ok X G (c.t.d.fact 55 (f := .glo "BadTime") rfl),
    errB_ok (cp 44 (p := errB (gaF "BadTime")) rfl),
    of_decide_eq_true (cp 45 (p := excB (gaF "BadTime") (gaF "TimeError")) rfl),
    gaF "BadDuration" K,
    He.glo_ok X G (c.t.d.fact 56 (f := .glo "BadDuration") rfl),
    errB_ok (cp 46 (p := errB (gaF "BadDuration")) rfl),
    of_decide_eq_true (cp 47 (p := excB (gaF "BadDuration") (gaF "TimeError")) rfl),
    gaF "BadRule" K,
    He.glo_ok X G (c.t.d.fact 57 (f := .glo "BadRule") rfl),
    errB_ok (cp 48 (p := errB (gaF "BadRule")) rfl),
    of_decide_eq_true (cp 49 (p := excB (gaF "BadRule") (gaF "TimeError")) rfl),
    gaF "BadArguments" K,
    He.glo_ok X G (c.t.d.fact 58 (f := .glo "BadArguments") rfl),
    errB_ok (cp 50 (p := errB (gaF "BadArguments")) rfl),
    of_decide_eq_true (cp 51 (p := excB (gaF "BadArguments") (gaF "TimeError")) rfl),
    gaF "BadKind" K,
    He.glo_ok X G (c.t.d.fact 59 (f := .glo "BadKind") rfl),
    errB_ok (cp 52 (p := errB (gaF "BadKind")) rfl),
    of_decide_eq_true (cp 53 (p := excB (gaF "BadKind") (gaF "TimeError")) rfl),
    gaF "BadRules" K,
    He.glo_ok X G (c.t.d.fact 60 (f := .glo "BadRules") rfl),
    errB_ok (cp 54 (p := errB (gaF "BadRules")) rfl),
    of_decide_eq_true (cp 55 (p := excB (gaF "BadRules") (gaF "TimeError")) rfl),
    kits_ok (cp 56 (p := kitsB [gaF "BadZone", gaF "BadInstant", gaF "BadReading", gaF "BadLibrary", gaF "BadTime", gaF "BadDuration", gaF "BadRule", gaF "BadArguments", gaF "BadKind", gaF "BadRules"]) rfl) (cp 57 (p := apartB [gaF "BadZone", gaF "BadInstant", gaF "BadReading", gaF "BadLibrary", gaF "BadTime", gaF "BadDuration", gaF "BadRule", gaF "BadArguments", gaF "BadKind", gaF "BadRules"]) rfl),
    He.free_ok X G (c.t.d.fact 61 (f := .free "tuple") rfl),
    He.free_ok X G (c.t.d.fact 62 (f := .free "sorted") rfl),
    He.free_ok X G (c.t.d.fact 63 (f := .free "len") rfl),
    He.free_ok X G (c.t.d.fact 64 (f := .free "isinstance") rfl),
    He.free_ok X G (c.t.d.fact 65 (f := .free "bool") rfl),
    He.free_ok X G (c.t.d.fact 66 (f := .free "int") rfl),
    He.free_ok X G (c.t.d.fact 67 (f := .free "abs") rfl),
    He.free_ok X G (c.t.d.fact 68 (f := .free "str") rfl),
    He.free_ok X G (c.t.d.fact 69 (f := .free "all") rfl),
    He.free_ok X G (c.t.d.fact 70 (f := .free "zip") rfl),
    He.free_ok X G (c.t.d.fact 71 (f := .free "range") rfl),
    He.free_ok X G (c.t.d.fact 72 (f := .free "list") rfl),
    He.ga K "PASSES_IN_GAP",
    He.glo_ok X G (c.t.d.fact 73 (f := .glo "PASSES_IN_GAP") rfl),
    (c.t.tab 0 (t := (gaF "PASSES_IN_GAP", ["keep", "refuse", "shift"])) rfl),
    (dctAt (gaF "PASSES_IN_GAP") "keep" K),
    fun H => tupD_ok (cp 1 (p := tupD (dctAt (gaF "PASSES_IN_GAP") "keep") [.int 0]) rfl) H,
    kdct_of (a := gaF "PASSES_IN_GAP") (c.t.tab 0 (t := (gaF "PASSES_IN_GAP", ["keep", "refuse", "shift"])) rfl) (cp 0 (p := valsD (gaF "PASSES_IN_GAP") [(("keep" : Str), .adr (dctAt (gaF "PASSES_IN_GAP") "keep")), (("refuse" : Str), .adr (dctAt (gaF "PASSES_IN_GAP") "refuse")), (("shift" : Str), .adr (dctAt (gaF "PASSES_IN_GAP") "shift"))]) rfl) (List.mem_of_getElem? (i := 0) rfl),
    (dctAt (gaF "PASSES_IN_GAP") "refuse" K),
    fun H => tupD_ok (cp 2 (p := tupD (dctAt (gaF "PASSES_IN_GAP") "refuse") []) rfl) H,
    kdct_of (a := gaF "PASSES_IN_GAP") (c.t.tab 0 (t := (gaF "PASSES_IN_GAP", ["keep", "refuse", "shift"])) rfl) (cp 0 (p := valsD (gaF "PASSES_IN_GAP") [(("keep" : Str), .adr (dctAt (gaF "PASSES_IN_GAP") "keep")), (("refuse" : Str), .adr (dctAt (gaF "PASSES_IN_GAP") "refuse")), (("shift" : Str), .adr (dctAt (gaF "PASSES_IN_GAP") "shift"))]) rfl) (List.mem_of_getElem? (i := 1) rfl),
    (dctAt (gaF "PASSES_IN_GAP") "shift" K),
    fun H => tupD_ok (cp 3 (p := tupD (dctAt (gaF "PASSES_IN_GAP") "shift") []) rfl) H,
    kdct_of (a := gaF "PASSES_IN_GAP") (c.t.tab 0 (t := (gaF "PASSES_IN_GAP", ["keep", "refuse", "shift"])) rfl) (cp 0 (p := valsD (gaF "PASSES_IN_GAP") [(("keep" : Str), .adr (dctAt (gaF "PASSES_IN_GAP") "keep")), (("refuse" : Str), .adr (dctAt (gaF "PASSES_IN_GAP") "refuse")), (("shift" : Str), .adr (dctAt (gaF "PASSES_IN_GAP") "shift"))]) rfl) (List.mem_of_getElem? (i := 2) rfl),
    He.ga K "PASSES_IN_FOLD",
    He.glo_ok X G (c.t.d.fact 74 (f := .glo "PASSES_IN_FOLD") rfl),
    (c.t.tab 1 (t := (gaF "PASSES_IN_FOLD", ["both", "first", "refuse", "second"])) rfl),
    (dctAt (gaF "PASSES_IN_FOLD") "both" K),
    fun H => tupD_ok (cp 5 (p := tupD (dctAt (gaF "PASSES_IN_FOLD") "both") [.int 0, .int 1]) rfl) H,
    kdct_of (a := gaF "PASSES_IN_FOLD") (c.t.tab 1 (t := (gaF "PASSES_IN_FOLD", ["both", "first", "refuse", "second"])) rfl) (cp 4 (p := valsD (gaF "PASSES_IN_FOLD") [(("both" : Str), .adr (dctAt (gaF "PASSES_IN_FOLD") "both")), (("first" : Str), .adr (dctAt (gaF "PASSES_IN_FOLD") "first")), (("refuse" : Str), .adr (dctAt (gaF "PASSES_IN_FOLD") "refuse")), (("second" : Str), .adr (dctAt (gaF "PASSES_IN_FOLD") "second"))]) rfl) (List.mem_of_getElem? (i := 0) rfl),
    (dctAt (gaF "PASSES_IN_FOLD") "first" K),
    fun H => tupD_ok (cp 6 (p := tupD (dctAt (gaF "PASSES_IN_FOLD") "first") [.int 0]) rfl) H,
    kdct_of (a := gaF "PASSES_IN_FOLD") (c.t.tab 1 (t := (gaF "PASSES_IN_FOLD", ["both", "first", "refuse", "second"])) rfl) (cp 4 (p := valsD (gaF "PASSES_IN_FOLD") [(("both" : Str), .adr (dctAt (gaF "PASSES_IN_FOLD") "both")), (("first" : Str), .adr (dctAt (gaF "PASSES_IN_FOLD") "first")), (("refuse" : Str), .adr (dctAt (gaF "PASSES_IN_FOLD") "refuse")), (("second" : Str), .adr (dctAt (gaF "PASSES_IN_FOLD") "second"))]) rfl) (List.mem_of_getElem? (i := 1) rfl),
    (dctAt (gaF "PASSES_IN_FOLD") "refuse" K),
    fun H => tupD_ok (cp 7 (p := tupD (dctAt (gaF "PASSES_IN_FOLD") "refuse") []) rfl) H,
    kdct_of (a := gaF "PASSES_IN_FOLD") (c.t.tab 1 (t := (gaF "PASSES_IN_FOLD", ["both", "first", "refuse", "second"])) rfl) (cp 4 (p := valsD (gaF "PASSES_IN_FOLD") [(("both" : Str), .adr (dctAt (gaF "PASSES_IN_FOLD") "both")), (("first" : Str), .adr (dctAt (gaF "PASSES_IN_FOLD") "first")), (("refuse" : Str), .adr (dctAt (gaF "PASSES_IN_FOLD") "refuse")), (("second" : Str), .adr (dctAt (gaF "PASSES_IN_FOLD") "second"))]) rfl) (List.mem_of_getElem? (i := 2) rfl),
    (dctAt (gaF "PASSES_IN_FOLD") "second" K),
    fun H => tupD_ok (cp 8 (p := tupD (dctAt (gaF "PASSES_IN_FOLD") "second") [.int 0]) rfl) H,
    kdct_of (a := gaF "PASSES_IN_FOLD") (c.t.tab 1 (t := (gaF "PASSES_IN_FOLD", ["both", "first", "refuse", "second"])) rfl) (cp 4 (p := valsD (gaF "PASSES_IN_FOLD") [(("both" : Str), .adr (dctAt (gaF "PASSES_IN_FOLD") "both")), (("first" : Str), .adr (dctAt (gaF "PASSES_IN_FOLD") "first")), (("refuse" : Str), .adr (dctAt (gaF "PASSES_IN_FOLD") "refuse")), (("second" : Str), .adr (dctAt (gaF "PASSES_IN_FOLD") "second"))]) rfl) (List.mem_of_getElem? (i := 3) rfl),
    u2,
    g2,
    u3,
    g3,
    u4,
    g4,
    u5,
    g5,
    u6,
    g6,
    u7,
    g7,
    u8,
    g8,
    u9,
    g9,
    u10,
    g10,
    He.ga K "SUMS",
    He.glo_ok X G (c.t.d.fact 84 (f := .glo "SUMS") rfl),
    fun H => tupD_ok (cp 9 (p := tupD (gaF "SUMS") [.str "elapsed", .str "wall"]) rfl) H,
    He.ga K "ORDERS",
    He.glo_ok X G (c.t.d.fact 85 (f := .glo "ORDERS") rfl),
    fun H => tupD_ok (cp 10 (p := tupD (gaF "ORDERS") [.str "elapsed", .str "wall"]) rfl) H,
    He.ga K "GAPS",
    He.glo_ok X G (c.t.d.fact 86 (f := .glo "GAPS") rfl),
    fun H => tupD_ok (cp 11 (p := tupD (gaF "GAPS") [.str "keep", .str "refuse", .str "shift"]) rfl) H,
    He.ga K "FOLDS",
    He.glo_ok X G (c.t.d.fact 87 (f := .glo "FOLDS") rfl),
    fun H => tupD_ok (cp 12 (p := tupD (gaF "FOLDS") [.str "both", .str "first", .str "refuse", .str "second"]) rfl) H,
    He.ga K "SHAPES",
    He.glo_ok X G (c.t.d.fact 88 (f := .glo "SHAPES") rfl),
    (c.t.tab 2 (t := (gaF "SHAPES", ["from universal and back", "to universal and back", "every reading", "some reading", "there and back", "sum of durations", "elapsed time", "same clock", "later", "sums told", "difference recovers", "order by difference", "equal means one instant", "one instant means equal", "one instant, one time", "order of instants", "order kept", "equal sums"])) rfl),
    (dctAt (gaF "SHAPES") "from universal and back" K),
    fun H => tupD_ok (cp 14 (p := tupD (dctAt (gaF "SHAPES") "from universal and back") [.str "instant"]) rfl) H,
    kdct_of (a := gaF "SHAPES") (c.t.tab 2 (t := (gaF "SHAPES", ["from universal and back", "to universal and back", "every reading", "some reading", "there and back", "sum of durations", "elapsed time", "same clock", "later", "sums told", "difference recovers", "order by difference", "equal means one instant", "one instant means equal", "one instant, one time", "order of instants", "order kept", "equal sums"])) rfl) (cp 13 (p := valsD (gaF "SHAPES") [(("from universal and back" : Str), .adr (dctAt (gaF "SHAPES") "from universal and back")), (("to universal and back" : Str), .adr (dctAt (gaF "SHAPES") "to universal and back")), (("every reading" : Str), .adr (dctAt (gaF "SHAPES") "every reading")), (("some reading" : Str), .adr (dctAt (gaF "SHAPES") "some reading")), (("there and back" : Str), .adr (dctAt (gaF "SHAPES") "there and back")), (("sum of durations" : Str), .adr (dctAt (gaF "SHAPES") "sum of durations")), (("elapsed time" : Str), .adr (dctAt (gaF "SHAPES") "elapsed time")), (("same clock" : Str), .adr (dctAt (gaF "SHAPES") "same clock")), (("later" : Str), .adr (dctAt (gaF "SHAPES") "later")), (("sums told" : Str), .adr (dctAt (gaF "SHAPES") "sums told")), (("difference recovers" : Str), .adr (dctAt (gaF "SHAPES") "difference recovers")), (("order by difference" : Str), .adr (dctAt (gaF "SHAPES") "order by difference")), (("equal means one instant" : Str), .adr (dctAt (gaF "SHAPES") "equal means one instant")), (("one instant means equal" : Str), .adr (dctAt (gaF "SHAPES") "one instant means equal")), (("one instant, one time" : Str), .adr (dctAt (gaF "SHAPES") "one instant, one time")), (("order of instants" : Str), .adr (dctAt (gaF "SHAPES") "order of instants")), (("order kept" : Str), .adr (dctAt (gaF "SHAPES") "order kept")), (("equal sums" : Str), .adr (dctAt (gaF "SHAPES") "equal sums"))]) rfl) (List.mem_of_getElem? (i := 0) rfl),
    (dctAt (gaF "SHAPES") "to universal and back" K),
    fun H => tupD_ok (cp 15 (p := tupD (dctAt (gaF "SHAPES") "to universal and back") [.str "time"]) rfl) H,
    kdct_of (a := gaF "SHAPES") (c.t.tab 2 (t := (gaF "SHAPES", ["from universal and back", "to universal and back", "every reading", "some reading", "there and back", "sum of durations", "elapsed time", "same clock", "later", "sums told", "difference recovers", "order by difference", "equal means one instant", "one instant means equal", "one instant, one time", "order of instants", "order kept", "equal sums"])) rfl) (cp 13 (p := valsD (gaF "SHAPES") [(("from universal and back" : Str), .adr (dctAt (gaF "SHAPES") "from universal and back")), (("to universal and back" : Str), .adr (dctAt (gaF "SHAPES") "to universal and back")), (("every reading" : Str), .adr (dctAt (gaF "SHAPES") "every reading")), (("some reading" : Str), .adr (dctAt (gaF "SHAPES") "some reading")), (("there and back" : Str), .adr (dctAt (gaF "SHAPES") "there and back")), (("sum of durations" : Str), .adr (dctAt (gaF "SHAPES") "sum of durations")), (("elapsed time" : Str), .adr (dctAt (gaF "SHAPES") "elapsed time")), (("same clock" : Str), .adr (dctAt (gaF "SHAPES") "same clock")), (("later" : Str), .adr (dctAt (gaF "SHAPES") "later")), (("sums told" : Str), .adr (dctAt (gaF "SHAPES") "sums told")), (("difference recovers" : Str), .adr (dctAt (gaF "SHAPES") "difference recovers")), (("order by difference" : Str), .adr (dctAt (gaF "SHAPES") "order by difference")), (("equal means one instant" : Str), .adr (dctAt (gaF "SHAPES") "equal means one instant")), (("one instant means equal" : Str), .adr (dctAt (gaF "SHAPES") "one instant means equal")), (("one instant, one time" : Str), .adr (dctAt (gaF "SHAPES") "one instant, one time")), (("order of instants" : Str), .adr (dctAt (gaF "SHAPES") "order of instants")), (("order kept" : Str), .adr (dctAt (gaF "SHAPES") "order kept")), (("equal sums" : Str), .adr (dctAt (gaF "SHAPES") "equal sums"))]) rfl) (List.mem_of_getElem? (i := 1) rfl),
    (dctAt (gaF "SHAPES") "every reading" K),
    fun H => tupD_ok (cp 16 (p := tupD (dctAt (gaF "SHAPES") "every reading") [.str "reading"]) rfl) H,
    kdct_of (a := gaF "SHAPES") (c.t.tab 2 (t := (gaF "SHAPES", ["from universal and back", "to universal and back", "every reading", "some reading", "there and back", "sum of durations", "elapsed time", "same clock", "later", "sums told", "difference recovers", "order by difference", "equal means one instant", "one instant means equal", "one instant, one time", "order of instants", "order kept", "equal sums"])) rfl) (cp 13 (p := valsD (gaF "SHAPES") [(("from universal and back" : Str), .adr (dctAt (gaF "SHAPES") "from universal and back")), (("to universal and back" : Str), .adr (dctAt (gaF "SHAPES") "to universal and back")), (("every reading" : Str), .adr (dctAt (gaF "SHAPES") "every reading")), (("some reading" : Str), .adr (dctAt (gaF "SHAPES") "some reading")), (("there and back" : Str), .adr (dctAt (gaF "SHAPES") "there and back")), (("sum of durations" : Str), .adr (dctAt (gaF "SHAPES") "sum of durations")), (("elapsed time" : Str), .adr (dctAt (gaF "SHAPES") "elapsed time")), (("same clock" : Str), .adr (dctAt (gaF "SHAPES") "same clock")), (("later" : Str), .adr (dctAt (gaF "SHAPES") "later")), (("sums told" : Str), .adr (dctAt (gaF "SHAPES") "sums told")), (("difference recovers" : Str), .adr (dctAt (gaF "SHAPES") "difference recovers")), (("order by difference" : Str), .adr (dctAt (gaF "SHAPES") "order by difference")), (("equal means one instant" : Str), .adr (dctAt (gaF "SHAPES") "equal means one instant")), (("one instant means equal" : Str), .adr (dctAt (gaF "SHAPES") "one instant means equal")), (("one instant, one time" : Str), .adr (dctAt (gaF "SHAPES") "one instant, one time")), (("order of instants" : Str), .adr (dctAt (gaF "SHAPES") "order of instants")), (("order kept" : Str), .adr (dctAt (gaF "SHAPES") "order kept")), (("equal sums" : Str), .adr (dctAt (gaF "SHAPES") "equal sums"))]) rfl) (List.mem_of_getElem? (i := 2) rfl),
    (dctAt (gaF "SHAPES") "some reading" K),
    fun H => tupD_ok (cp 17 (p := tupD (dctAt (gaF "SHAPES") "some reading") [.str "reading"]) rfl) H,
    kdct_of (a := gaF "SHAPES") (c.t.tab 2 (t := (gaF "SHAPES", ["from universal and back", "to universal and back", "every reading", "some reading", "there and back", "sum of durations", "elapsed time", "same clock", "later", "sums told", "difference recovers", "order by difference", "equal means one instant", "one instant means equal", "one instant, one time", "order of instants", "order kept", "equal sums"])) rfl) (cp 13 (p := valsD (gaF "SHAPES") [(("from universal and back" : Str), .adr (dctAt (gaF "SHAPES") "from universal and back")), (("to universal and back" : Str), .adr (dctAt (gaF "SHAPES") "to universal and back")), (("every reading" : Str), .adr (dctAt (gaF "SHAPES") "every reading")), (("some reading" : Str), .adr (dctAt (gaF "SHAPES") "some reading")), (("there and back" : Str), .adr (dctAt (gaF "SHAPES") "there and back")), (("sum of durations" : Str), .adr (dctAt (gaF "SHAPES") "sum of durations")), (("elapsed time" : Str), .adr (dctAt (gaF "SHAPES") "elapsed time")), (("same clock" : Str), .adr (dctAt (gaF "SHAPES") "same clock")), (("later" : Str), .adr (dctAt (gaF "SHAPES") "later")), (("sums told" : Str), .adr (dctAt (gaF "SHAPES") "sums told")), (("difference recovers" : Str), .adr (dctAt (gaF "SHAPES") "difference recovers")), (("order by difference" : Str), .adr (dctAt (gaF "SHAPES") "order by difference")), (("equal means one instant" : Str), .adr (dctAt (gaF "SHAPES") "equal means one instant")), (("one instant means equal" : Str), .adr (dctAt (gaF "SHAPES") "one instant means equal")), (("one instant, one time" : Str), .adr (dctAt (gaF "SHAPES") "one instant, one time")), (("order of instants" : Str), .adr (dctAt (gaF "SHAPES") "order of instants")), (("order kept" : Str), .adr (dctAt (gaF "SHAPES") "order kept")), (("equal sums" : Str), .adr (dctAt (gaF "SHAPES") "equal sums"))]) rfl) (List.mem_of_getElem? (i := 3) rfl),
    (dctAt (gaF "SHAPES") "there and back" K),
    fun H => tupD_ok (cp 18 (p := tupD (dctAt (gaF "SHAPES") "there and back") [.str "time", .str "duration"]) rfl) H,
    kdct_of (a := gaF "SHAPES") (c.t.tab 2 (t := (gaF "SHAPES", ["from universal and back", "to universal and back", "every reading", "some reading", "there and back", "sum of durations", "elapsed time", "same clock", "later", "sums told", "difference recovers", "order by difference", "equal means one instant", "one instant means equal", "one instant, one time", "order of instants", "order kept", "equal sums"])) rfl) (cp 13 (p := valsD (gaF "SHAPES") [(("from universal and back" : Str), .adr (dctAt (gaF "SHAPES") "from universal and back")), (("to universal and back" : Str), .adr (dctAt (gaF "SHAPES") "to universal and back")), (("every reading" : Str), .adr (dctAt (gaF "SHAPES") "every reading")), (("some reading" : Str), .adr (dctAt (gaF "SHAPES") "some reading")), (("there and back" : Str), .adr (dctAt (gaF "SHAPES") "there and back")), (("sum of durations" : Str), .adr (dctAt (gaF "SHAPES") "sum of durations")), (("elapsed time" : Str), .adr (dctAt (gaF "SHAPES") "elapsed time")), (("same clock" : Str), .adr (dctAt (gaF "SHAPES") "same clock")), (("later" : Str), .adr (dctAt (gaF "SHAPES") "later")), (("sums told" : Str), .adr (dctAt (gaF "SHAPES") "sums told")), (("difference recovers" : Str), .adr (dctAt (gaF "SHAPES") "difference recovers")), (("order by difference" : Str), .adr (dctAt (gaF "SHAPES") "order by difference")), (("equal means one instant" : Str), .adr (dctAt (gaF "SHAPES") "equal means one instant")), (("one instant means equal" : Str), .adr (dctAt (gaF "SHAPES") "one instant means equal")), (("one instant, one time" : Str), .adr (dctAt (gaF "SHAPES") "one instant, one time")), (("order of instants" : Str), .adr (dctAt (gaF "SHAPES") "order of instants")), (("order kept" : Str), .adr (dctAt (gaF "SHAPES") "order kept")), (("equal sums" : Str), .adr (dctAt (gaF "SHAPES") "equal sums"))]) rfl) (List.mem_of_getElem? (i := 4) rfl),
    (dctAt (gaF "SHAPES") "sum of durations" K),
    fun H => tupD_ok (cp 19 (p := tupD (dctAt (gaF "SHAPES") "sum of durations") [.str "time", .str "duration", .str "duration"]) rfl) H,
    kdct_of (a := gaF "SHAPES") (c.t.tab 2 (t := (gaF "SHAPES", ["from universal and back", "to universal and back", "every reading", "some reading", "there and back", "sum of durations", "elapsed time", "same clock", "later", "sums told", "difference recovers", "order by difference", "equal means one instant", "one instant means equal", "one instant, one time", "order of instants", "order kept", "equal sums"])) rfl) (cp 13 (p := valsD (gaF "SHAPES") [(("from universal and back" : Str), .adr (dctAt (gaF "SHAPES") "from universal and back")), (("to universal and back" : Str), .adr (dctAt (gaF "SHAPES") "to universal and back")), (("every reading" : Str), .adr (dctAt (gaF "SHAPES") "every reading")), (("some reading" : Str), .adr (dctAt (gaF "SHAPES") "some reading")), (("there and back" : Str), .adr (dctAt (gaF "SHAPES") "there and back")), (("sum of durations" : Str), .adr (dctAt (gaF "SHAPES") "sum of durations")), (("elapsed time" : Str), .adr (dctAt (gaF "SHAPES") "elapsed time")), (("same clock" : Str), .adr (dctAt (gaF "SHAPES") "same clock")), (("later" : Str), .adr (dctAt (gaF "SHAPES") "later")), (("sums told" : Str), .adr (dctAt (gaF "SHAPES") "sums told")), (("difference recovers" : Str), .adr (dctAt (gaF "SHAPES") "difference recovers")), (("order by difference" : Str), .adr (dctAt (gaF "SHAPES") "order by difference")), (("equal means one instant" : Str), .adr (dctAt (gaF "SHAPES") "equal means one instant")), (("one instant means equal" : Str), .adr (dctAt (gaF "SHAPES") "one instant means equal")), (("one instant, one time" : Str), .adr (dctAt (gaF "SHAPES") "one instant, one time")), (("order of instants" : Str), .adr (dctAt (gaF "SHAPES") "order of instants")), (("order kept" : Str), .adr (dctAt (gaF "SHAPES") "order kept")), (("equal sums" : Str), .adr (dctAt (gaF "SHAPES") "equal sums"))]) rfl) (List.mem_of_getElem? (i := 5) rfl),
    (dctAt (gaF "SHAPES") "elapsed time" K),
    fun H => tupD_ok (cp 20 (p := tupD (dctAt (gaF "SHAPES") "elapsed time") [.str "time", .str "duration"]) rfl) H,
    kdct_of (a := gaF "SHAPES") (c.t.tab 2 (t := (gaF "SHAPES", ["from universal and back", "to universal and back", "every reading", "some reading", "there and back", "sum of durations", "elapsed time", "same clock", "later", "sums told", "difference recovers", "order by difference", "equal means one instant", "one instant means equal", "one instant, one time", "order of instants", "order kept", "equal sums"])) rfl) (cp 13 (p := valsD (gaF "SHAPES") [(("from universal and back" : Str), .adr (dctAt (gaF "SHAPES") "from universal and back")), (("to universal and back" : Str), .adr (dctAt (gaF "SHAPES") "to universal and back")), (("every reading" : Str), .adr (dctAt (gaF "SHAPES") "every reading")), (("some reading" : Str), .adr (dctAt (gaF "SHAPES") "some reading")), (("there and back" : Str), .adr (dctAt (gaF "SHAPES") "there and back")), (("sum of durations" : Str), .adr (dctAt (gaF "SHAPES") "sum of durations")), (("elapsed time" : Str), .adr (dctAt (gaF "SHAPES") "elapsed time")), (("same clock" : Str), .adr (dctAt (gaF "SHAPES") "same clock")), (("later" : Str), .adr (dctAt (gaF "SHAPES") "later")), (("sums told" : Str), .adr (dctAt (gaF "SHAPES") "sums told")), (("difference recovers" : Str), .adr (dctAt (gaF "SHAPES") "difference recovers")), (("order by difference" : Str), .adr (dctAt (gaF "SHAPES") "order by difference")), (("equal means one instant" : Str), .adr (dctAt (gaF "SHAPES") "equal means one instant")), (("one instant means equal" : Str), .adr (dctAt (gaF "SHAPES") "one instant means equal")), (("one instant, one time" : Str), .adr (dctAt (gaF "SHAPES") "one instant, one time")), (("order of instants" : Str), .adr (dctAt (gaF "SHAPES") "order of instants")), (("order kept" : Str), .adr (dctAt (gaF "SHAPES") "order kept")), (("equal sums" : Str), .adr (dctAt (gaF "SHAPES") "equal sums"))]) rfl) (List.mem_of_getElem? (i := 6) rfl),
    (dctAt (gaF "SHAPES") "same clock" K),
    fun H => tupD_ok (cp 21 (p := tupD (dctAt (gaF "SHAPES") "same clock") [.str "time"]) rfl) H,
    kdct_of (a := gaF "SHAPES") (c.t.tab 2 (t := (gaF "SHAPES", ["from universal and back", "to universal and back", "every reading", "some reading", "there and back", "sum of durations", "elapsed time", "same clock", "later", "sums told", "difference recovers", "order by difference", "equal means one instant", "one instant means equal", "one instant, one time", "order of instants", "order kept", "equal sums"])) rfl) (cp 13 (p := valsD (gaF "SHAPES") [(("from universal and back" : Str), .adr (dctAt (gaF "SHAPES") "from universal and back")), (("to universal and back" : Str), .adr (dctAt (gaF "SHAPES") "to universal and back")), (("every reading" : Str), .adr (dctAt (gaF "SHAPES") "every reading")), (("some reading" : Str), .adr (dctAt (gaF "SHAPES") "some reading")), (("there and back" : Str), .adr (dctAt (gaF "SHAPES") "there and back")), (("sum of durations" : Str), .adr (dctAt (gaF "SHAPES") "sum of durations")), (("elapsed time" : Str), .adr (dctAt (gaF "SHAPES") "elapsed time")), (("same clock" : Str), .adr (dctAt (gaF "SHAPES") "same clock")), (("later" : Str), .adr (dctAt (gaF "SHAPES") "later")), (("sums told" : Str), .adr (dctAt (gaF "SHAPES") "sums told")), (("difference recovers" : Str), .adr (dctAt (gaF "SHAPES") "difference recovers")), (("order by difference" : Str), .adr (dctAt (gaF "SHAPES") "order by difference")), (("equal means one instant" : Str), .adr (dctAt (gaF "SHAPES") "equal means one instant")), (("one instant means equal" : Str), .adr (dctAt (gaF "SHAPES") "one instant means equal")), (("one instant, one time" : Str), .adr (dctAt (gaF "SHAPES") "one instant, one time")), (("order of instants" : Str), .adr (dctAt (gaF "SHAPES") "order of instants")), (("order kept" : Str), .adr (dctAt (gaF "SHAPES") "order kept")), (("equal sums" : Str), .adr (dctAt (gaF "SHAPES") "equal sums"))]) rfl) (List.mem_of_getElem? (i := 7) rfl),
    (dctAt (gaF "SHAPES") "later" K),
    fun H => tupD_ok (cp 22 (p := tupD (dctAt (gaF "SHAPES") "later") [.str "time", .str "duration"]) rfl) H,
    kdct_of (a := gaF "SHAPES") (c.t.tab 2 (t := (gaF "SHAPES", ["from universal and back", "to universal and back", "every reading", "some reading", "there and back", "sum of durations", "elapsed time", "same clock", "later", "sums told", "difference recovers", "order by difference", "equal means one instant", "one instant means equal", "one instant, one time", "order of instants", "order kept", "equal sums"])) rfl) (cp 13 (p := valsD (gaF "SHAPES") [(("from universal and back" : Str), .adr (dctAt (gaF "SHAPES") "from universal and back")), (("to universal and back" : Str), .adr (dctAt (gaF "SHAPES") "to universal and back")), (("every reading" : Str), .adr (dctAt (gaF "SHAPES") "every reading")), (("some reading" : Str), .adr (dctAt (gaF "SHAPES") "some reading")), (("there and back" : Str), .adr (dctAt (gaF "SHAPES") "there and back")), (("sum of durations" : Str), .adr (dctAt (gaF "SHAPES") "sum of durations")), (("elapsed time" : Str), .adr (dctAt (gaF "SHAPES") "elapsed time")), (("same clock" : Str), .adr (dctAt (gaF "SHAPES") "same clock")), (("later" : Str), .adr (dctAt (gaF "SHAPES") "later")), (("sums told" : Str), .adr (dctAt (gaF "SHAPES") "sums told")), (("difference recovers" : Str), .adr (dctAt (gaF "SHAPES") "difference recovers")), (("order by difference" : Str), .adr (dctAt (gaF "SHAPES") "order by difference")), (("equal means one instant" : Str), .adr (dctAt (gaF "SHAPES") "equal means one instant")), (("one instant means equal" : Str), .adr (dctAt (gaF "SHAPES") "one instant means equal")), (("one instant, one time" : Str), .adr (dctAt (gaF "SHAPES") "one instant, one time")), (("order of instants" : Str), .adr (dctAt (gaF "SHAPES") "order of instants")), (("order kept" : Str), .adr (dctAt (gaF "SHAPES") "order kept")), (("equal sums" : Str), .adr (dctAt (gaF "SHAPES") "equal sums"))]) rfl) (List.mem_of_getElem? (i := 8) rfl),
    (dctAt (gaF "SHAPES") "sums told" K),
    fun H => tupD_ok (cp 23 (p := tupD (dctAt (gaF "SHAPES") "sums told") [.str "time", .str "duration"]) rfl) H,
    kdct_of (a := gaF "SHAPES") (c.t.tab 2 (t := (gaF "SHAPES", ["from universal and back", "to universal and back", "every reading", "some reading", "there and back", "sum of durations", "elapsed time", "same clock", "later", "sums told", "difference recovers", "order by difference", "equal means one instant", "one instant means equal", "one instant, one time", "order of instants", "order kept", "equal sums"])) rfl) (cp 13 (p := valsD (gaF "SHAPES") [(("from universal and back" : Str), .adr (dctAt (gaF "SHAPES") "from universal and back")), (("to universal and back" : Str), .adr (dctAt (gaF "SHAPES") "to universal and back")), (("every reading" : Str), .adr (dctAt (gaF "SHAPES") "every reading")), (("some reading" : Str), .adr (dctAt (gaF "SHAPES") "some reading")), (("there and back" : Str), .adr (dctAt (gaF "SHAPES") "there and back")), (("sum of durations" : Str), .adr (dctAt (gaF "SHAPES") "sum of durations")), (("elapsed time" : Str), .adr (dctAt (gaF "SHAPES") "elapsed time")), (("same clock" : Str), .adr (dctAt (gaF "SHAPES") "same clock")), (("later" : Str), .adr (dctAt (gaF "SHAPES") "later")), (("sums told" : Str), .adr (dctAt (gaF "SHAPES") "sums told")), (("difference recovers" : Str), .adr (dctAt (gaF "SHAPES") "difference recovers")), (("order by difference" : Str), .adr (dctAt (gaF "SHAPES") "order by difference")), (("equal means one instant" : Str), .adr (dctAt (gaF "SHAPES") "equal means one instant")), (("one instant means equal" : Str), .adr (dctAt (gaF "SHAPES") "one instant means equal")), (("one instant, one time" : Str), .adr (dctAt (gaF "SHAPES") "one instant, one time")), (("order of instants" : Str), .adr (dctAt (gaF "SHAPES") "order of instants")), (("order kept" : Str), .adr (dctAt (gaF "SHAPES") "order kept")), (("equal sums" : Str), .adr (dctAt (gaF "SHAPES") "equal sums"))]) rfl) (List.mem_of_getElem? (i := 9) rfl),
    (dctAt (gaF "SHAPES") "difference recovers" K),
    fun H => tupD_ok (cp 24 (p := tupD (dctAt (gaF "SHAPES") "difference recovers") [.str "time", .str "time"]) rfl) H,
    kdct_of (a := gaF "SHAPES") (c.t.tab 2 (t := (gaF "SHAPES", ["from universal and back", "to universal and back", "every reading", "some reading", "there and back", "sum of durations", "elapsed time", "same clock", "later", "sums told", "difference recovers", "order by difference", "equal means one instant", "one instant means equal", "one instant, one time", "order of instants", "order kept", "equal sums"])) rfl) (cp 13 (p := valsD (gaF "SHAPES") [(("from universal and back" : Str), .adr (dctAt (gaF "SHAPES") "from universal and back")), (("to universal and back" : Str), .adr (dctAt (gaF "SHAPES") "to universal and back")), (("every reading" : Str), .adr (dctAt (gaF "SHAPES") "every reading")), (("some reading" : Str), .adr (dctAt (gaF "SHAPES") "some reading")), (("there and back" : Str), .adr (dctAt (gaF "SHAPES") "there and back")), (("sum of durations" : Str), .adr (dctAt (gaF "SHAPES") "sum of durations")), (("elapsed time" : Str), .adr (dctAt (gaF "SHAPES") "elapsed time")), (("same clock" : Str), .adr (dctAt (gaF "SHAPES") "same clock")), (("later" : Str), .adr (dctAt (gaF "SHAPES") "later")), (("sums told" : Str), .adr (dctAt (gaF "SHAPES") "sums told")), (("difference recovers" : Str), .adr (dctAt (gaF "SHAPES") "difference recovers")), (("order by difference" : Str), .adr (dctAt (gaF "SHAPES") "order by difference")), (("equal means one instant" : Str), .adr (dctAt (gaF "SHAPES") "equal means one instant")), (("one instant means equal" : Str), .adr (dctAt (gaF "SHAPES") "one instant means equal")), (("one instant, one time" : Str), .adr (dctAt (gaF "SHAPES") "one instant, one time")), (("order of instants" : Str), .adr (dctAt (gaF "SHAPES") "order of instants")), (("order kept" : Str), .adr (dctAt (gaF "SHAPES") "order kept")), (("equal sums" : Str), .adr (dctAt (gaF "SHAPES") "equal sums"))]) rfl) (List.mem_of_getElem? (i := 10) rfl),
    (dctAt (gaF "SHAPES") "order by difference" K),
    fun H => tupD_ok (cp 25 (p := tupD (dctAt (gaF "SHAPES") "order by difference") [.str "time", .str "time"]) rfl) H,
    kdct_of (a := gaF "SHAPES") (c.t.tab 2 (t := (gaF "SHAPES", ["from universal and back", "to universal and back", "every reading", "some reading", "there and back", "sum of durations", "elapsed time", "same clock", "later", "sums told", "difference recovers", "order by difference", "equal means one instant", "one instant means equal", "one instant, one time", "order of instants", "order kept", "equal sums"])) rfl) (cp 13 (p := valsD (gaF "SHAPES") [(("from universal and back" : Str), .adr (dctAt (gaF "SHAPES") "from universal and back")), (("to universal and back" : Str), .adr (dctAt (gaF "SHAPES") "to universal and back")), (("every reading" : Str), .adr (dctAt (gaF "SHAPES") "every reading")), (("some reading" : Str), .adr (dctAt (gaF "SHAPES") "some reading")), (("there and back" : Str), .adr (dctAt (gaF "SHAPES") "there and back")), (("sum of durations" : Str), .adr (dctAt (gaF "SHAPES") "sum of durations")), (("elapsed time" : Str), .adr (dctAt (gaF "SHAPES") "elapsed time")), (("same clock" : Str), .adr (dctAt (gaF "SHAPES") "same clock")), (("later" : Str), .adr (dctAt (gaF "SHAPES") "later")), (("sums told" : Str), .adr (dctAt (gaF "SHAPES") "sums told")), (("difference recovers" : Str), .adr (dctAt (gaF "SHAPES") "difference recovers")), (("order by difference" : Str), .adr (dctAt (gaF "SHAPES") "order by difference")), (("equal means one instant" : Str), .adr (dctAt (gaF "SHAPES") "equal means one instant")), (("one instant means equal" : Str), .adr (dctAt (gaF "SHAPES") "one instant means equal")), (("one instant, one time" : Str), .adr (dctAt (gaF "SHAPES") "one instant, one time")), (("order of instants" : Str), .adr (dctAt (gaF "SHAPES") "order of instants")), (("order kept" : Str), .adr (dctAt (gaF "SHAPES") "order kept")), (("equal sums" : Str), .adr (dctAt (gaF "SHAPES") "equal sums"))]) rfl) (List.mem_of_getElem? (i := 11) rfl),
    (dctAt (gaF "SHAPES") "equal means one instant" K),
    fun H => tupD_ok (cp 26 (p := tupD (dctAt (gaF "SHAPES") "equal means one instant") [.str "time", .str "time"]) rfl) H,
    kdct_of (a := gaF "SHAPES") (c.t.tab 2 (t := (gaF "SHAPES", ["from universal and back", "to universal and back", "every reading", "some reading", "there and back", "sum of durations", "elapsed time", "same clock", "later", "sums told", "difference recovers", "order by difference", "equal means one instant", "one instant means equal", "one instant, one time", "order of instants", "order kept", "equal sums"])) rfl) (cp 13 (p := valsD (gaF "SHAPES") [(("from universal and back" : Str), .adr (dctAt (gaF "SHAPES") "from universal and back")), (("to universal and back" : Str), .adr (dctAt (gaF "SHAPES") "to universal and back")), (("every reading" : Str), .adr (dctAt (gaF "SHAPES") "every reading")), (("some reading" : Str), .adr (dctAt (gaF "SHAPES") "some reading")), (("there and back" : Str), .adr (dctAt (gaF "SHAPES") "there and back")), (("sum of durations" : Str), .adr (dctAt (gaF "SHAPES") "sum of durations")), (("elapsed time" : Str), .adr (dctAt (gaF "SHAPES") "elapsed time")), (("same clock" : Str), .adr (dctAt (gaF "SHAPES") "same clock")), (("later" : Str), .adr (dctAt (gaF "SHAPES") "later")), (("sums told" : Str), .adr (dctAt (gaF "SHAPES") "sums told")), (("difference recovers" : Str), .adr (dctAt (gaF "SHAPES") "difference recovers")), (("order by difference" : Str), .adr (dctAt (gaF "SHAPES") "order by difference")), (("equal means one instant" : Str), .adr (dctAt (gaF "SHAPES") "equal means one instant")), (("one instant means equal" : Str), .adr (dctAt (gaF "SHAPES") "one instant means equal")), (("one instant, one time" : Str), .adr (dctAt (gaF "SHAPES") "one instant, one time")), (("order of instants" : Str), .adr (dctAt (gaF "SHAPES") "order of instants")), (("order kept" : Str), .adr (dctAt (gaF "SHAPES") "order kept")), (("equal sums" : Str), .adr (dctAt (gaF "SHAPES") "equal sums"))]) rfl) (List.mem_of_getElem? (i := 12) rfl),
    (dctAt (gaF "SHAPES") "one instant means equal" K),
    fun H => tupD_ok (cp 27 (p := tupD (dctAt (gaF "SHAPES") "one instant means equal") [.str "time", .str "time"]) rfl) H,
    kdct_of (a := gaF "SHAPES") (c.t.tab 2 (t := (gaF "SHAPES", ["from universal and back", "to universal and back", "every reading", "some reading", "there and back", "sum of durations", "elapsed time", "same clock", "later", "sums told", "difference recovers", "order by difference", "equal means one instant", "one instant means equal", "one instant, one time", "order of instants", "order kept", "equal sums"])) rfl) (cp 13 (p := valsD (gaF "SHAPES") [(("from universal and back" : Str), .adr (dctAt (gaF "SHAPES") "from universal and back")), (("to universal and back" : Str), .adr (dctAt (gaF "SHAPES") "to universal and back")), (("every reading" : Str), .adr (dctAt (gaF "SHAPES") "every reading")), (("some reading" : Str), .adr (dctAt (gaF "SHAPES") "some reading")), (("there and back" : Str), .adr (dctAt (gaF "SHAPES") "there and back")), (("sum of durations" : Str), .adr (dctAt (gaF "SHAPES") "sum of durations")), (("elapsed time" : Str), .adr (dctAt (gaF "SHAPES") "elapsed time")), (("same clock" : Str), .adr (dctAt (gaF "SHAPES") "same clock")), (("later" : Str), .adr (dctAt (gaF "SHAPES") "later")), (("sums told" : Str), .adr (dctAt (gaF "SHAPES") "sums told")), (("difference recovers" : Str), .adr (dctAt (gaF "SHAPES") "difference recovers")), (("order by difference" : Str), .adr (dctAt (gaF "SHAPES") "order by difference")), (("equal means one instant" : Str), .adr (dctAt (gaF "SHAPES") "equal means one instant")), (("one instant means equal" : Str), .adr (dctAt (gaF "SHAPES") "one instant means equal")), (("one instant, one time" : Str), .adr (dctAt (gaF "SHAPES") "one instant, one time")), (("order of instants" : Str), .adr (dctAt (gaF "SHAPES") "order of instants")), (("order kept" : Str), .adr (dctAt (gaF "SHAPES") "order kept")), (("equal sums" : Str), .adr (dctAt (gaF "SHAPES") "equal sums"))]) rfl) (List.mem_of_getElem? (i := 13) rfl),
    (dctAt (gaF "SHAPES") "one instant, one time" K),
    fun H => tupD_ok (cp 28 (p := tupD (dctAt (gaF "SHAPES") "one instant, one time") [.str "time", .str "time"]) rfl) H,
    kdct_of (a := gaF "SHAPES") (c.t.tab 2 (t := (gaF "SHAPES", ["from universal and back", "to universal and back", "every reading", "some reading", "there and back", "sum of durations", "elapsed time", "same clock", "later", "sums told", "difference recovers", "order by difference", "equal means one instant", "one instant means equal", "one instant, one time", "order of instants", "order kept", "equal sums"])) rfl) (cp 13 (p := valsD (gaF "SHAPES") [(("from universal and back" : Str), .adr (dctAt (gaF "SHAPES") "from universal and back")), (("to universal and back" : Str), .adr (dctAt (gaF "SHAPES") "to universal and back")), (("every reading" : Str), .adr (dctAt (gaF "SHAPES") "every reading")), (("some reading" : Str), .adr (dctAt (gaF "SHAPES") "some reading")), (("there and back" : Str), .adr (dctAt (gaF "SHAPES") "there and back")), (("sum of durations" : Str), .adr (dctAt (gaF "SHAPES") "sum of durations")), (("elapsed time" : Str), .adr (dctAt (gaF "SHAPES") "elapsed time")), (("same clock" : Str), .adr (dctAt (gaF "SHAPES") "same clock")), (("later" : Str), .adr (dctAt (gaF "SHAPES") "later")), (("sums told" : Str), .adr (dctAt (gaF "SHAPES") "sums told")), (("difference recovers" : Str), .adr (dctAt (gaF "SHAPES") "difference recovers")), (("order by difference" : Str), .adr (dctAt (gaF "SHAPES") "order by difference")), (("equal means one instant" : Str), .adr (dctAt (gaF "SHAPES") "equal means one instant")), (("one instant means equal" : Str), .adr (dctAt (gaF "SHAPES") "one instant means equal")), (("one instant, one time" : Str), .adr (dctAt (gaF "SHAPES") "one instant, one time")), (("order of instants" : Str), .adr (dctAt (gaF "SHAPES") "order of instants")), (("order kept" : Str), .adr (dctAt (gaF "SHAPES") "order kept")), (("equal sums" : Str), .adr (dctAt (gaF "SHAPES") "equal sums"))]) rfl) (List.mem_of_getElem? (i := 14) rfl),
    (dctAt (gaF "SHAPES") "order of instants" K),
    fun H => tupD_ok (cp 29 (p := tupD (dctAt (gaF "SHAPES") "order of instants") [.str "time", .str "time"]) rfl) H,
    kdct_of (a := gaF "SHAPES") (c.t.tab 2 (t := (gaF "SHAPES", ["from universal and back", "to universal and back", "every reading", "some reading", "there and back", "sum of durations", "elapsed time", "same clock", "later", "sums told", "difference recovers", "order by difference", "equal means one instant", "one instant means equal", "one instant, one time", "order of instants", "order kept", "equal sums"])) rfl) (cp 13 (p := valsD (gaF "SHAPES") [(("from universal and back" : Str), .adr (dctAt (gaF "SHAPES") "from universal and back")), (("to universal and back" : Str), .adr (dctAt (gaF "SHAPES") "to universal and back")), (("every reading" : Str), .adr (dctAt (gaF "SHAPES") "every reading")), (("some reading" : Str), .adr (dctAt (gaF "SHAPES") "some reading")), (("there and back" : Str), .adr (dctAt (gaF "SHAPES") "there and back")), (("sum of durations" : Str), .adr (dctAt (gaF "SHAPES") "sum of durations")), (("elapsed time" : Str), .adr (dctAt (gaF "SHAPES") "elapsed time")), (("same clock" : Str), .adr (dctAt (gaF "SHAPES") "same clock")), (("later" : Str), .adr (dctAt (gaF "SHAPES") "later")), (("sums told" : Str), .adr (dctAt (gaF "SHAPES") "sums told")), (("difference recovers" : Str), .adr (dctAt (gaF "SHAPES") "difference recovers")), (("order by difference" : Str), .adr (dctAt (gaF "SHAPES") "order by difference")), (("equal means one instant" : Str), .adr (dctAt (gaF "SHAPES") "equal means one instant")), (("one instant means equal" : Str), .adr (dctAt (gaF "SHAPES") "one instant means equal")), (("one instant, one time" : Str), .adr (dctAt (gaF "SHAPES") "one instant, one time")), (("order of instants" : Str), .adr (dctAt (gaF "SHAPES") "order of instants")), (("order kept" : Str), .adr (dctAt (gaF "SHAPES") "order kept")), (("equal sums" : Str), .adr (dctAt (gaF "SHAPES") "equal sums"))]) rfl) (List.mem_of_getElem? (i := 15) rfl),
    (dctAt (gaF "SHAPES") "order kept" K),
    fun H => tupD_ok (cp 30 (p := tupD (dctAt (gaF "SHAPES") "order kept") [.str "time", .str "time", .str "duration"]) rfl) H,
    kdct_of (a := gaF "SHAPES") (c.t.tab 2 (t := (gaF "SHAPES", ["from universal and back", "to universal and back", "every reading", "some reading", "there and back", "sum of durations", "elapsed time", "same clock", "later", "sums told", "difference recovers", "order by difference", "equal means one instant", "one instant means equal", "one instant, one time", "order of instants", "order kept", "equal sums"])) rfl) (cp 13 (p := valsD (gaF "SHAPES") [(("from universal and back" : Str), .adr (dctAt (gaF "SHAPES") "from universal and back")), (("to universal and back" : Str), .adr (dctAt (gaF "SHAPES") "to universal and back")), (("every reading" : Str), .adr (dctAt (gaF "SHAPES") "every reading")), (("some reading" : Str), .adr (dctAt (gaF "SHAPES") "some reading")), (("there and back" : Str), .adr (dctAt (gaF "SHAPES") "there and back")), (("sum of durations" : Str), .adr (dctAt (gaF "SHAPES") "sum of durations")), (("elapsed time" : Str), .adr (dctAt (gaF "SHAPES") "elapsed time")), (("same clock" : Str), .adr (dctAt (gaF "SHAPES") "same clock")), (("later" : Str), .adr (dctAt (gaF "SHAPES") "later")), (("sums told" : Str), .adr (dctAt (gaF "SHAPES") "sums told")), (("difference recovers" : Str), .adr (dctAt (gaF "SHAPES") "difference recovers")), (("order by difference" : Str), .adr (dctAt (gaF "SHAPES") "order by difference")), (("equal means one instant" : Str), .adr (dctAt (gaF "SHAPES") "equal means one instant")), (("one instant means equal" : Str), .adr (dctAt (gaF "SHAPES") "one instant means equal")), (("one instant, one time" : Str), .adr (dctAt (gaF "SHAPES") "one instant, one time")), (("order of instants" : Str), .adr (dctAt (gaF "SHAPES") "order of instants")), (("order kept" : Str), .adr (dctAt (gaF "SHAPES") "order kept")), (("equal sums" : Str), .adr (dctAt (gaF "SHAPES") "equal sums"))]) rfl) (List.mem_of_getElem? (i := 16) rfl),
    (dctAt (gaF "SHAPES") "equal sums" K),
    fun H => tupD_ok (cp 31 (p := tupD (dctAt (gaF "SHAPES") "equal sums") [.str "time", .str "time", .str "duration"]) rfl) H,
    kdct_of (a := gaF "SHAPES") (c.t.tab 2 (t := (gaF "SHAPES", ["from universal and back", "to universal and back", "every reading", "some reading", "there and back", "sum of durations", "elapsed time", "same clock", "later", "sums told", "difference recovers", "order by difference", "equal means one instant", "one instant means equal", "one instant, one time", "order of instants", "order kept", "equal sums"])) rfl) (cp 13 (p := valsD (gaF "SHAPES") [(("from universal and back" : Str), .adr (dctAt (gaF "SHAPES") "from universal and back")), (("to universal and back" : Str), .adr (dctAt (gaF "SHAPES") "to universal and back")), (("every reading" : Str), .adr (dctAt (gaF "SHAPES") "every reading")), (("some reading" : Str), .adr (dctAt (gaF "SHAPES") "some reading")), (("there and back" : Str), .adr (dctAt (gaF "SHAPES") "there and back")), (("sum of durations" : Str), .adr (dctAt (gaF "SHAPES") "sum of durations")), (("elapsed time" : Str), .adr (dctAt (gaF "SHAPES") "elapsed time")), (("same clock" : Str), .adr (dctAt (gaF "SHAPES") "same clock")), (("later" : Str), .adr (dctAt (gaF "SHAPES") "later")), (("sums told" : Str), .adr (dctAt (gaF "SHAPES") "sums told")), (("difference recovers" : Str), .adr (dctAt (gaF "SHAPES") "difference recovers")), (("order by difference" : Str), .adr (dctAt (gaF "SHAPES") "order by difference")), (("equal means one instant" : Str), .adr (dctAt (gaF "SHAPES") "equal means one instant")), (("one instant means equal" : Str), .adr (dctAt (gaF "SHAPES") "one instant means equal")), (("one instant, one time" : Str), .adr (dctAt (gaF "SHAPES") "one instant, one time")), (("order of instants" : Str), .adr (dctAt (gaF "SHAPES") "order of instants")), (("order kept" : Str), .adr (dctAt (gaF "SHAPES") "order kept")), (("equal sums" : Str), .adr (dctAt (gaF "SHAPES") "equal sums"))]) rfl) (List.mem_of_getElem? (i := 17) rfl),
    He.eqO_ok (cp 32 (p := nonB (gaF "SHAPES") "") rfl),
    He.eqO_ok (cp 33 (p := nonB (gaF "SHAPES") "Later") rfl),
    He.eqO_ok (cp 34 (p := nonB (gaF "SHAPES") "later ") rfl),
    u16,
    g16,
    He.ga K "KINDS",
    He.glo_ok X G (c.t.d.fact 90 (f := .glo "KINDS") rfl),
    fun H => tupD_ok (cp 35 (p := tupD (gaF "KINDS") [.str "fixed", .str "skips", .str "repeats", .str "both"]) rfl) H⟩
  have e := hfa.symm.trans (He.glo_ok X G (c.t.d.fact 49 (f := .glo "law") rfl))
  cases e
  have b := FunD.bindsA (ps := ["script"]) F49 fun _ _ _ _ _ _ us hl => match us, hl with | [_], _ => rfl
  exact ⟨fd49, fun s v => b s [v] rfl, fun base _ _ TB => ok_law T rfl TB⟩
end TH
open PySem PySem.W PySem.Calls PyProof.Rows in
set_option maxRecDepth 100000 in
set_option maxHeartbeats 0 in
theorem PySem.Challenge.cw_timeheld_k11_whole_refused_later_holds : PySem.Challenge.rw_timeheld_k11_whole_refused_later.Holds := by
  w_on; o_law
  refine HandSHeadRun.head_any (r := OpenLaw.row PySem.Challenge.rw_timeheld_k11_whole_refused_later) (q := view (OpenLaw.row PySem.Challenge.rw_timeheld_k11_whole_refused_later).prog [139]) (H := TH.hk) (ob := TH.ob) (M := 12000) (loose := TH.loose) (d := HandSHeadRun.topDef (OpenLaw.row PySem.Challenge.rw_timeheld_k11_whole_refused_later).prog 139) (kwd := []) TH.ob_eq
    (by kernel_rfl) (fun s => by kernel_rfl) TH.run (by kernel_rfl) (by kernel_rfl) (by kernel_rfl) (by rfl) (by first | assumption | decide +kernel) (by decide +kernel) ⟨rfl, rfl, rfl, rfl, rfl, by decide +kernel⟩ ?hw ?hc
  case hw => w_witness2
  case hc =>
    refine LamX.walk_ofTsE (l := PySem.Challenge.rw_timeheld_k11_whole_refused_later) (n := 63) (k := 13) (x := "script") (CX := fun _ => L2.CX0) rfl (by decide) (by kernel_rfl) ⟨rfl, by decide, by decide⟩ ?F (fun _ _ _ _ _ z => z)
    intro w mg fa h Y G hmg0
    obtain ⟨K, KX, c⟩ := Y
    have hmg : mg ("law" : PySem.Str) = some (.ref fa) := by
      have e : (HandSHeadRun.topDef (OpenLaw.row PySem.Challenge.rw_timeheld_k11_whole_refused_later).prog 139).name = ("law" : PySem.Str) := by kernel_rfl
      rw [← e]
      exact hmg0
    obtain ⟨fd, hb, hF⟩ := TH.facts (P := (PySem.Challenge.rw_timeheld_k11_whole_refused_later).prog) (w := w) KX G hmg c
    have m : (("law", none) : He.Defn) ∈ TH.tfs := List.mem_singleton.mpr rfl
    refine ⟨K, KX, fd, [He.cT K ("law", none)], TH.sp_lawT K, fun p hp => ?_, fun p hp => ?_, fun p hp => ?_, hb, fun H a ns hl _ hH hS => ⟨a, ns, rfl, hS, hl, hH _ (List.mem_singleton.mpr rfl), fun _ => rfl⟩, fun base KB GB TB => hF base KB GB (TB _ (List.mem_singleton.mpr rfl))⟩
    · rw [List.mem_singleton.mp hp]; exact c.empty _ m
    · rw [List.mem_singleton.mp hp]; exact c.out _ m
    · rw [List.mem_singleton.mp hp]; exact PySem.W.codeHd_of_K KX (c.hd _ m)
