import PyProof.Rows.All
import Wide.All
import OpenK.AllK
import Wide.FinOn
import HandS.ForMost
import HandS.SetBool
import HandS.Strs
import HandS.Evl
import HandS.IsInst
import HandS.Flow
import HandS.Style
import HandS.Wide
import HandS.Deep
import HandS.Defaults
import HandS.NoneIn
import HandS.Small
import HandS.HeadHook3
import HandS.CallLocal
import HandS.Star
import HandS.Zip
import PyProof.RulesMatch
import KE.KDictSum
import KE.KDictCopyH
import PyProof.TupleOfGen
import KE.KDflt
import HandS.Lambda
import HandS.Nested
import HandS.Exc
import HandS.ExcOwn
import HandS.ExcIs
import HandS.WordsExc
import HandS.EndTab
import HandS.HeadHook4
import HandS.Text
import HandS.StrMore
import HandS.FStr
import HandS.SetFor
import PyProof.CollectIter
import HandS.Walk
import PyProof.StrLawsAffix
import PyProof.StrLawsChain
import HandS.TupAny
import PyProof.P3In
import HandS.Comp
import HandS.DictComp
import HandS.DictSubView
import HandS.Property
import PySem.Challenge.RW_timeheld_k09_whole_desks
import HandS.Head0
import HandS.Head1
import HandS.Head2
import HandS.HeadEnd
import HandS.HeadHook1
import HandS.HeadHook2
import HandS.HeadWalk
set_option Elab.async false
set_option linter.all false
set_option maxRecDepth 100000
set_option maxHeartbeats 4000000
/-! A set comprehension whose elements are ints. -/
namespace TH
open PySem PySem.Spec PyProof.Rows L2 PpSet
/-- one turn's element joins the set at D -/
def Join (w : World) (D : Addr) (Nx : Hp → Prop) : VK := fun y G =>
  ∃ (k : Int) (S : Int → Bool) (c : Nat), y = .int k ∧ G D = some (SetO w D S c) ∧ c + 1 < scanBound ∧
    Nx (upd G D (SetO w D (fun j => S j || decide (j = k)) (if S k = true then c else c + 1)))
/-- one turn of the block -/
def TurnSc (w : World) (g : TG) (tt : TT) (te : TE) (vs : List Nat) (σ : L2.St) (D : Addr) (Nx : Hp → Prop) : V → Hp → Prop := fun x G =>
  g x (wipe σ vs) G fun σ2 G2 => wipe σ2 vs = wipe σ vs ∧
    tt σ2 G2 fun b G3 => if b = true then te σ2 G3 (Join w D Nx) else Nx G3
def LoopSc (w : World) (g : TG) (tt : TT) (te : TE) (vs : List Nat) (σ : L2.St) (D : Addr) (J : It) (H1 : Hp) (Qd : Hp → Prop) : Prop :=
  ∃ W : Nat → Nat → Hp → Prop, (∃ m, W 0 m (upd H1 D (SetO w D (fun _ => false) 0))) ∧
    ∀ i m G, W i m G → (J.stop i G ∧ Qd G) ∨
      (J.go i G ∧ ∃ Nx : Hp → Prop, (∀ G', Nx G' → ∃ m', m' < m ∧ W (i + 1) m' G') ∧
        ∀ x G', J.yld i G x G' → TurnSc w g tt te vs σ D Nx x G')
def tScI (w : World) (wi : TI) (g : TG) (tt : TT) (te : TE) (vs : List Nat) : TE := fun σ H Q =>
  wi σ H fun J H1 => ∀ D, H1 D = none → LoopSc w g tt te vs σ D J H1 (Q (.ref D))
section
variable {X : Cx}
theorem join_add {pins : List (Addr × Obj)} {σ : L2.St} {G : Hp} {s : Shared} {D : Addr} {Nx : Hp → Prop} {y : V} {z : Value} {Q : Value → Shared → Prop}
    (I : Inv X pins σ G s) (r : RelV y z) (j : Join X.w D Nx y G)
    (k : ∀ s' G', Inv X pins σ G' s' → Nx G' → ∀ v, Q v s') :
    wpAny (model X.prog X.w) X.A (call (.builtin "set.add") [.ref D, z]) Q X.xe s := by
  obtain ⟨i, S, c, rfl, hD, hc, nx⟩ := j
  refine thn (mt_sadd pins s σ G (.ref D) [.int i] (.ref D) [z] (fun _ G' => Nx G') I rfl (.cons r .nil) ⟨D, i, S, c, rfl, rfl, hD, hc, nx⟩) ?_
  rintro v s' ⟨x, G', I', -, q⟩
  exact k s' G' I' q v
variable {elt tg iter : Expr} {ifs : List Expr} {scope : Scope} {own : List (PySem.Str × Nat)} {pos pos' : Pos} {wi : TI} {g : TG} {tt : TT} {te : TE}
theorem scI_core {pins : List (Addr × Obj)} {s : Shared} {σ : L2.St} {H : Hp} {Q : VK} {use : Option (Value → Sem Unit)} {Qf : Value → Shared → Prop}
    (hc : X.calm = true) (hN : X.N.Nodup) (I : Inv X pins σ H s)
    (hi : PI X tg iter wi) (ok : BlkOk X.N X.env.scope scope own)
    (hg : ∀ (s : Shared) (H : Hp) (C : Addr) (cl : List (PySem.Str × Addr)) (fp : List Addr),
      PG (X.blk s H scope (compEnvC scope cl C X.env) fp) tg g)
    (ht : ∀ (s : Shared) (H : Hp) (C : Addr) (cl : List (PySem.Str × Addr)) (fp : List Addr),
      PTs (X.blk s H scope (compEnvC scope cl C X.env) fp) ifs tt)
    (he : ∀ (s : Shared) (H : Hp) (C : Addr) (cl : List (PySem.Str × Addr)) (fp : List Addr),
      PE (X.blk s H scope (compEnvC scope cl C X.env) fp) elt te)
    (hs : ∀ x, foldedSetIterable iter X.env x = pure x)
    (h : tScI X.w wi g tt te (own.map (·.2)) σ H Q)
    (fin : ∀ D C s' m G, Inv X pins σ G s' → Q (.ref D) G → s'.heap.Ns C m → FpOk X pins G C →
      compPost (model X.prog X.w) X.A X.xe use Qf (.ref D) C (.ok .next) s') :
    wpAny (model X.prog X.w) X.A (comprehension (.SetComp elt [⟨tg, iter, ifs, 0⟩] scope pos) scope X.env pos'
      (newSet (.type "set")) false (eval iter X.env) use) Qf X.xe s := by
  have cellsOk : ∀ y ∈ scope.names, y.2 = .free → ∃ c, X.env.cells.lookup y.1 = some c := fun y hy e =>
    (ok.free y hy e).elim (fun k => I.ok.has _ (.inl k)) (fun k => I.ok.has _ (.inr k))
  refine wpAny_comprehension_free (use := use) rfl hs (closure_ok cellsOk) ok.kind (fun y hy e => by rw [ok.uniq y hy, e]) ?_
  refine thn (hi.run pins s σ H _ I h) fun xv s1 hx => thn hx ?_
  rintro itv s2 ⟨it, fp, tn, J, H2, rfl, I2, T, st2, f2, q⟩
  refine newSet_ok (newEnv_comp ?_)
  generalize hD : s2.heap.objs.size = D
  have free2 : H2 D = none := I2.hok.fresh (Nat.le_of_eq hD)
  obtain ⟨W, ⟨m0, w0⟩, turn⟩ := q D free2
  generalize hob : ({ cls := .type "set", dict := none, data := .set #[] 0 (.fresh 0 0 (!X.w.params.followText "set-order")) } : Obj) = ob
  generalize hE : SetO X.w D (fun _ => false) 0 = emp at w0
  have I3 : Inv X pins σ (upd H2 D emp) { s2 with heap := s2.heap.push ob } := by
    subst hob hE
    refine I2.laid (t' := s2.toks) (fun b o e => Heap.get?_push_of_some _ e) (Nat.le_of_eq hD) ?_
    subst hD
    exact setO_new (setR_fresh X.w)
  generalize hs3 : ({ s2 with heap := s2.heap.push ob } : Shared) = s3 at I3
  have h3 : s3.heap = s2.heap.push ob := by rw [← hs3]
  have older : ∀ b ∈ fp, b < s2.heap.objs.size := fun b hb =>
    have ⟨_, e, _⟩ := T.obj _ _ st2 b hb
    Heap.lt_size e
  have f3 : ∀ b ∈ fp, FpOk X pins (upd H2 D emp) b ∧ b < s3.heap.objs.size := by
    intro b hb
    have lt := older b hb
    have ne : b ≠ D := by rw [← hD]; exact Nat.ne_of_lt lt
    refine ⟨⟨(upd_ne ne).trans (f2 b hb).1, (f2 b hb).2⟩, ?_⟩
    rw [h3, Heap.size_push]
    exact Nat.lt_succ_of_lt lt
  have st3 : tn 0 s3.heap := T.keep _ _ _ st2 fun b _ o e => by
    rw [h3]
    exact Heap.get?_push_of_some _ e
  have I4 := block_start I3 ok hN f3
  have pg := hg s3 (upd H2 D emp) s3.heap.objs.size (cellsFrom (s3.heap.objs.size + 1) scope.names (cloFrom X.env.cells scope.names [])) fp
  have pt := ht s3 (upd H2 D emp) s3.heap.objs.size (cellsFrom (s3.heap.objs.size + 1) scope.names (cloFrom X.env.cells scope.names [])) fp
  have pe := he s3 (upd H2 D emp) s3.heap.objs.size (cellsFrom (s3.heap.objs.size + 1) scope.names (cloFrom X.env.cells scope.names [])) fp
  show codeAny _ _ (.compStart (.SetComp elt [⟨tg, iter, ifs, 0⟩] scope pos) 0 (.ref it) (.ref D)
      (compEnvC scope (cellsFrom (s3.heap.objs.size + 1) scope.names (cloFrom X.env.cells scope.names [])) s3.heap.objs.size X.env))
    (compPost (model X.prog X.w) X.A X.xe use Qf (.ref D) s3.heap.objs.size)
    { s3 with heap := pushCells (s3.heap.push { cls := .type "dict", data := .dict #[] }) scope.names }
  have out3 : ∀ b ∈ fp, (upd H2 D emp) b = none := fun b hb => (f3 b hb).1.1
  generalize hce : compEnvC scope (cellsFrom (s3.heap.objs.size + 1) scope.names (cloFrom X.env.cells scope.names [])) s3.heap.objs.size X.env = ce at I4 pg pt pe ⊢
  have locC : ce.locals = s3.heap.objs.size := by subst hce; rfl
  generalize hH3 : upd H2 D emp = H3 at I3 I4 pg pt pe w0 out3 f3
  generalize hs4 : ({ s3 with heap := pushCells (s3.heap.push { cls := .type "dict", data := .dict #[] }) scope.names } : Shared) = s4 at I4 ⊢
  have st4 : tn 0 s4.heap := T.keep _ _ _ st3 fun b _ o e => by
    rw [← hs4]
    exact pushCells_keeps _ _ _ _ (Heap.get?_push_of_some _ e)
  have itOk : ∀ {σ' : L2.St} {G : Hp} {s' : Shared}, Inv (X.blk s3 H3 scope ce fp) [] σ' G s' → (∀ b ∈ fp, G b = none) →
      ∀ b ∈ fp, FpOk (X.blk s3 H3 scope ce fp) [] G b := fun {σ' G s'} I' out b hb =>
    ⟨out b hb, (I'.ok.exf b hb).1, I'.ok.exfs b hb, .inl hb, fun x c e => (I'.ok.exf b hb).2 x c e, fun p hp => nomatch (show p ∈ ([] : List (Addr × Obj)) from hp)⟩
  have loop : codeAny (model X.prog X.w) X.A (.compLoop (.SetComp elt [⟨tg, iter, ifs, 0⟩] scope pos) 0 (.ref it) (.ref D) ce)
      (compPost (model X.prog X.w) X.A X.xe use Qf (.ref D) s3.heap.objs.size) s4 := by
    refine compLoopS_any (fun n s' => ∃ i G, Inv (X.blk s3 H3 scope ce fp) [] (wipe σ (own.map (·.2))) G s' ∧
      tn i s'.heap ∧ (∀ b ∈ fp, G b = none) ∧ W i n G) ?_ m0 ⟨0, H3, I4, st4, out3, w0⟩
    rintro n s5 ⟨i, G5, I5, st5, out5, w5⟩
    obtain ⟨stop, qq⟩ | ⟨go, Nx, hNx, step⟩ := turn i n G5 w5
    · have td := T.done (X.blk s3 H3 scope ce fp) rfl rfl rfl hc i [] s5 _ G5 (fun _ _ => False) I5 (itOk I5 out5) st5 stop
      refine thnF td ?_
      rintro r s6 ⟨rfl, I6⟩
      have I7 : Inv X pins σ G5 s6 := I3.call' (ch := fp) I6.os I6.base I6.hok I6.bare fun b hb =>
        have z := (f3 b hb).1
        ⟨z.2.2.2.1, z.2.1, z.2.2.2.2.1, z.2.2.2.2.2⟩
      have out : G5 s3.heap.objs.size = none := locC ▸ I6.free
      obtain ⟨m, hn, -⟩ := I6.loc
      have hn2 : s6.heap.Ns s3.heap.objs.size m := locC ▸ hn
      exact fin D s3.heap.objs.size s6 m G5 I7 qq hn2 (I3.fpOk (Nat.le_refl _) out)
    · have ti := T.item (X.blk s3 H3 scope ce fp) rfl rfl rfl hc i [] s5 _ G5 (fun _ _ => False) I5 (itOk I5 out5) st5 go
      refine thnF ti ?_
      rintro r s6 ⟨u, rfl, h6⟩
      refine thnF h6 ?_
      rintro _ s7 ⟨x, G7, I7, r7, y7, st7, out7⟩
      have I7' := I7.pinned (itOk I7 out7) (T.obj _ _ st7)
      refine thnF (pg.run _ s7 _ G7 x u _ I7' r7 (step x G7 y7)) ?_
      rintro _ s8 ⟨σ8, G8, I8, hw8, q8⟩
      refine thnF (pt.run _ s8 σ8 G8 _ I8 q8) ?_
      rintro b s9 ⟨G9, I9, q9⟩
      have again : ∀ {s' : Shared} {G : Hp}, Inv (X.blk s3 H3 scope ce fp) ([] ++ pinsAt fp s7.heap) σ8 G s' → Nx G →
          ∃ m, m < n ∧ ∃ i G, Inv (X.blk s3 H3 scope ce fp) [] (wipe σ (own.map (·.2))) G s' ∧ tn i s'.heap ∧ (∀ b ∈ fp, G b = none) ∧ W i m G := by
        intro s' G I' nx
        obtain ⟨m', lt, w'⟩ := hNx G nx
        have pinned : ∀ b ∈ fp, ∀ o, s7.heap.get? b = some o → s'.heap.get? b = some o ∧ G b = none := fun b hb o e =>
          have z := I'.pin (b, o) (List.mem_append_right _ (List.mem_append_right _ (mem_pinsAt hb e)))
          ⟨z.1, z.2.1⟩
        have hl : (wipe σ (own.map (·.2))).length = σ8.length := by rw [← hw8, wipe_length]
        refine ⟨m', lt, i + 1, G, (I'.unpinned (pins := [])).weak hl ?_, T.keep _ _ _ st7 fun b hb o e => (pinned b hb o e).1, ?_, w'⟩
        · intro j v e
          rw [← hw8] at e
          exact (wipe_some e).1
        · intro b hb
          obtain ⟨o, e, -⟩ := T.obj _ _ st7 b hb
          exact (pinned b hb o e).2
      cases b with
      | false =>
        rw [if_neg (by decide)] at q9 ⊢
        exact again I9 q9
      | true =>
        rw [if_pos rfl] at q9 ⊢
        refine thnF (pe.run _ s9 σ8 G9 _ I9 q9) ?_
        rintro z s10 ⟨yv, G10, I10, r10, jn⟩
        exact thnF (join_add (X := X.blk s3 H3 scope ce fp) (Q := fun _ s' => ∃ G', Inv (X.blk s3 H3 scope ce fp) ([] ++ pinsAt fp s7.heap) σ8 G' s' ∧ Nx G') I10 r10 jn fun s' G' I' nx _ => ⟨G', I', nx⟩)
          fun _ s' ⟨G', I', nx⟩ => again I' nx
  exact codeAny_compStart_set loop (T.self X.A 0 _ _ _ st4 loop)
theorem pe_scI (hc : X.calm = true) (hN : X.N.Nodup) (hi : PI X tg iter wi) (ok : BlkOk X.N X.env.scope scope own)
    (hg : ∀ (s : Shared) (H : Hp) (C : Addr) (cl : List (PySem.Str × Addr)) (fp : List Addr),
      PG (X.blk s H scope (compEnvC scope cl C X.env) fp) tg g)
    (ht : ∀ (s : Shared) (H : Hp) (C : Addr) (cl : List (PySem.Str × Addr)) (fp : List Addr),
      PTs (X.blk s H scope (compEnvC scope cl C X.env) fp) ifs tt)
    (he : ∀ (s : Shared) (H : Hp) (C : Addr) (cl : List (PySem.Str × Addr)) (fp : List Addr),
      PE (X.blk s H scope (compEnvC scope cl C X.env) fp) elt te)
    (hs : ∀ x, foldedSetIterable iter X.env x = pure x := by intro _; rfl) :
    PE X (.SetComp elt [⟨tg, iter, ifs, 0⟩] scope pos) (tScI X.w wi g tt te (own.map (·.2))) := by
  refine ⟨fun pins s σ H Q I h => ?_⟩
  rw [eval_SetComp]
  refine scI_core hc hN I hi ok hg ht he hs h ?_
  intro D C s' m G I' q hn f
  refine ⟨m, hn, fun h'' sb => ?_⟩
  obtain ⟨f0, f1, f2, f3, f4, f5⟩ := f
  exact ⟨.ref D, G, I'.turned (t' := s'.toks) (fun b o hb e => (sb.2 b hb).trans e) f0 f1 f3 f4 f5, rfl, q⟩
end
abbrev Ex := Evl.Ex
abbrev St := L2.St
/-! ### a def of the text: where it stands -/
structure FA (K : PySem.W.Frag) (mg : Str → Option Value) (x : Str) (st : Stmt) (ps : List Str) where
  f : Addr
  fd : FuncData
  F : FunD K x x (defArgs st) (defBody st) (defScope st) [] [] f fd
  b : Binds K fd ps []
  g : mg x = some (.ref f)
theorem pd_get {α β : Type} {F : α → β → Prop} : ∀ {xs : List α} {ys : List β} {i : Nat} {x : α}, Paired F xs ys → xs[i]? = some x → ∃ y, ys[i]? = some y ∧ F x y
  | _, _, _, _, .nil, e => by simp at e
  | _, _, 0, x, .cons (b := b) r _, e => by
    have e2 : _ = x := Option.some.inj e
    subst e2
    exact ⟨b, rfl, r⟩
  | _, _, i + 1, x, .cons _ t, e => pd_get (i := i) t e
theorem pd_app {α β : Type} {F : α → β → Prop} : ∀ {xs xs' : List α} {ys ys' : List β}, Paired F xs ys → Paired F xs' ys' → Paired F (xs ++ xs') (ys ++ ys')
  | _, _, _, _, .nil, h => h
  | _, _, _, _, .cons r t, h => .cons r (pd_app t h)
/-! ### what is kept -/
/-- tuples stand as they stood -/
def TrT (K : PySem.W.Frag) (H H' : Hp) : Prop := ∀ a xs, SqT K H a xs → SqT K H' a xs
def TrL (K : PySem.W.Frag) (H H' : Hp) : Prop := ∀ a xs, SqL K H a xs → SqL K H' a xs
/-- all but the object at r -/
def Fr (r : Addr) (H H' : Hp) : Prop := ∀ a o, a ≠ r → H a = some o → H' a = some o
section
variable {K : PySem.W.Frag} {H H' H1 H2 : Hp} {r : Addr}
theorem Fr.refl : Fr r H H := fun _ _ _ h => h
theorem Fr.trans (a : Fr r H H1) (b : Fr r H1 H2) : Fr r H H2 := fun x o n h => b x o n (a x o n h)
theorem Fr.of (e : Ex H H') : Fr r H H' := fun a o _ h => e a o h
theorem TrT.of (e : Ex H H') : TrT K H H' := fun _ _ h => Evl.ex_t e h
theorem TrL.of (e : Ex H H') : TrL K H H' := fun _ _ h => Evl.ex_l e h
theorem TrT.refl : TrT K H H := fun _ _ h => h
theorem TrT.trans (a : TrT K H H1) (b : TrT K H1 H2) : TrT K H H2 := fun x xs h => b x xs (a x xs h)
theorem TrT.fr {xs : List V} (hr : H r = some (.lst xs)) (e : Fr r H H') : TrT K H H' := by
  intro a ys h
  have ne : ∀ o, H a = some o → (∀ zs, o ≠ .lst zs) → a ≠ r := fun o q n z => by
    subst z
    rw [hr] at q
    exact n xs (Option.some.inj q).symm
  rcases h with (h | ⟨o, h⟩) | h
  · exact .inl (.inl (e a _ (ne _ h fun _ z => nomatch z) h))
  · exact .inl (.inr ⟨o, e a _ (ne _ h fun _ z => nomatch z) h⟩)
  · exact .inr h
theorem TrT.upd {xs ys : List V} (hr : H r = some (.lst xs)) : TrT K H (upd H r (.lst ys)) :=
  TrT.fr hr fun a o n h => by rw [upd_ne n]; exact h
theorem TrT.newl {o : HO} (hr : H r = none) : TrT K H (L2.upd H r o) := TrT.of (Evl.Ex.new hr)
theorem Fr.upd {o : HO} : Fr r H (L2.upd H r o) := fun a u n h => by rw [upd_ne n]; exact h
/-- an object that the first heap does not have may change -/
theorem Fr.mut {q : Addr} {o : HO} (e : Fr r H H') (h : H q = none) : Fr r H (L2.upd H' q o) := fun a u n ha => by
  rw [upd_ne (ne_of_none ha h)]
  exact e a u n ha
end
/-! ### data: pairs, changes, zones -/
def PV (K : PySem.W.Frag) (H : Hp) (v : V) (p : Int × Int) : Prop := ∃ a, v = .ref a ∧ SqT K H a [.int p.1, .int p.2]
abbrev PVs (K : PySem.W.Frag) (H : Hp) : List V → List (Int × Int) → Prop := Paired (PV K H)
def CsV (K : PySem.W.Frag) (H : Hp) (v : V) (cs : List (Int × Int)) : Prop := ∃ a xs, v = .ref a ∧ SqT K H a xs ∧ PVs K H xs cs
abbrev Zone := Int × List (Int × Int)
def ZV (K : PySem.W.Frag) (H : Hp) (v : V) (z : Zone) : Prop := ∃ a c, v = .ref a ∧ SqT K H a [.int z.1, c] ∧ CsV K H c z.2
section
variable {K : PySem.W.Frag} {H H' : Hp} {v : V}
theorem PV.tr {p : Int × Int} (e : TrT K H H') (h : PV K H v p) : PV K H' v p := by
  obtain ⟨a, q, h⟩ := h
  exact ⟨a, q, e _ _ h⟩
theorem PVs.tr {vs : List V} {ps : List (Int × Int)} (e : TrT K H H') (h : PVs K H vs ps) : PVs K H' vs ps :=
  L2.Paired.mapP h fun _ _ q => q.tr e
theorem CsV.tr {cs : List (Int × Int)} (e : TrT K H H') (h : CsV K H v cs) : CsV K H' v cs := by
  obtain ⟨a, xs, q, h, k⟩ := h
  exact ⟨a, xs, q, e _ _ h, k.tr e⟩
theorem ZV.tr {z : Zone} (e : TrT K H H') (h : ZV K H v z) : ZV K H' v z := by
  obtain ⟨a, c, q, h, k⟩ := h
  exact ⟨a, c, q, e _ _ h, k.tr e⟩
theorem PVs.len {vs : List V} {ps : List (Int × Int)} (h : PVs K H vs ps) : vs.length = ps.length := Paired.length h
end
/-! ### readings, step by step -/
section
variable {σ : L2.St} {H : Hp} {n : St → Hp → Prop} {r : VK} {b c : St → Hp → Prop} {Q : VK}
theorem g_seq {t u : TS} (h : t (Ends.mk (u (Ends.mk n r b c)) r b c) σ H) : tSeq t u (Ends.mk n r b c) σ H := h
theorem g_next (h : n σ H) : tNext (Ends.mk n r b c) σ H := h
theorem g_brk (h : b σ H) : tBreak (Ends.mk n r b c) σ H := h
theorem g_cont (h : c σ H) : tCont (Ends.mk n r b c) σ H := h
theorem g_asg {te : TE} {g : TG} (h : te σ H fun x H1 => g x σ H1 n) : tAsg te g (Ends.mk n r b c) σ H := h
theorem g_ret {te : TE} (h : te σ H r) : tRet te (Ends.mk n r b c) σ H := h
theorem g_retN (h : r .non H) : tRetN (Ends.mk n r b c) σ H := h
theorem g_drop {te : TE} (h : te σ H fun _ H1 => n σ H1) : tDrop te (Ends.mk n r b c) σ H := h
theorem g_ifS {tc : TT} {t u : TS} (h : tc σ H fun k H1 => if k = true then t (Ends.mk n r b c) σ H1 else u (Ends.mk n r b c) σ H1) : tIfS tc t u (Ends.mk n r b c) σ H := h
theorem g_par {i j : Nat} {ta : TA} (h : ta σ H fun vs H1 => ∃ v w, vs = [v, w] ∧ n ((σ.set i (some v)).set j (some w)) H1) : tPar i j ta (Ends.mk n r b c) σ H := h
theorem g_par_ {v w : V} {N : V → V → Prop} (h : N v w) : ∃ v' w', [v, w] = [v', w'] ∧ N v' w' := ⟨v, w, rfl, h⟩
theorem g_var {i : Nat} {v : V} (e : σ[i]? = some (some v)) (h : Q v H) : tVar i σ H Q := ⟨v, e, h⟩
theorem g_c {v : V} (h : Q v H) : tC v σ H Q := h
theorem g_op {rr : R2} {ta tb : TE} (h : ta σ H fun x H1 => tb σ H1 fun y H2 => rr x y H2 Q) : tOp rr ta tb σ H Q := h
theorem g_un {rr : V → Hp → VK → Prop} {ta : TE} (h : ta σ H fun x H1 => rr x H1 Q) : tUn rr ta σ H Q := h
theorem g_I0 {g : Int → Int → V} {i j : Int} (h : Q (g i j) H) : rI0 g (.int i) (.int j) H Q := ⟨i, j, rfl, rfl, h⟩
theorem g_I {C : Int → Int → Prop} {g : Int → Int → V} {i j : Int} (k : C i j) (h : Q (g i j) H) : rI C g (.int i) (.int j) H Q := ⟨i, j, rfl, rfl, k, h⟩
theorem g_U {g : Int → V} {i : Int} (h : Q (g i) H) : rU g (.int i) H Q := ⟨i, rfl, h⟩
theorem dec_int {i j : Int} : decide (V.int i = V.int j) = decide (i = j) := decide_eq_decide.mpr ⟨fun e => V.int.inj e, fun e => by rw [e]⟩
theorem dec_str {i j : Str} : decide (V.str i = V.str j) = decide (i = j) := decide_eq_decide.mpr ⟨fun e => V.str.inj e, fun e => by rw [e]⟩
theorem dec_bl {i j : Bool} : decide (V.bl i = V.bl j) = (i == j) := by cases i <;> cases j <;> rfl
theorem g_eqI {i j : Int} (h : Q (.bl (decide (i = j))) H) : rEq (.int i) (.int j) H Q := ⟨rfl, by rw [dec_int]; exact h⟩
theorem g_neI {i j : Int} (h : Q (.bl (!decide (i = j))) H) : rNe (.int i) (.int j) H Q := ⟨rfl, by rw [dec_int]; exact h⟩
theorem g_eqS {i j : Str} (h : Q (.bl (decide (i = j))) H) : rEq (.str i) (.str j) H Q := ⟨rfl, by rw [dec_str]; exact h⟩
theorem g_neS {i j : Str} (h : Q (.bl (!decide (i = j))) H) : rNe (.str i) (.str j) H Q := ⟨rfl, by rw [dec_str]; exact h⟩
theorem g_eqB {i j : Bool} (h : Q (.bl (i == j)) H) : rEq (.bl i) (.bl j) H Q := ⟨rfl, by rw [dec_bl]; exact h⟩
theorem g_neB {i j : Bool} (h : Q (.bl (!(i == j))) H) : rNe (.bl i) (.bl j) H Q := ⟨rfl, by rw [dec_bl]; exact h⟩
theorem g_test {t : TE} {R : Bool → Hp → Prop} (h : t σ H fun x H' => ∃ k, x = .bl k ∧ R k H') : tTest t σ H R := h
theorem g_B {t : TE} {R : Bool → Hp → Prop} (h : t σ H fun x H' => ∃ k, x = .bl k ∧ R k H') : tB t σ H R := h
theorem g_bl {k : Bool} {R : Bool → Prop} (h : R k) : ∃ k', V.bl k = V.bl k' ∧ R k' := ⟨k, rfl, h⟩
theorem g_not {t : TT} {R : Bool → Hp → Prop} (h : t σ H fun k H1 => R (!k) H1) : tNot t σ H R := h
theorem g_and {t u : TT} {R : Bool → Hp → Prop} (h : t σ H fun k H1 => if k = true then u σ H1 R else R false H1) : tAnd t u σ H R := h
theorem g_or {t u : TT} {R : Bool → Hp → Prop} (h : t σ H fun k H1 => if k = true then R true H1 else u σ H1 R) : tOr t u σ H R := h
theorem g_andV {ta tb : TE} (h : ta σ H fun x H1 => ∃ k, x = .bl k ∧ if k = true then tb σ H1 Q else Q (.bl false) H1) : tAndV ta tb σ H Q := h
theorem g_orV {ta tb : TE} (h : ta σ H fun x H1 => ∃ k, x = .bl k ∧ if k = true then Q (.bl true) H1 else tb σ H1 Q) : tOrV ta tb σ H Q := h
theorem g_notV {ta : TE} (h : ta σ H fun x H1 => ∃ k, x = .bl k ∧ Q (.bl (!k)) H1) : tNotV ta σ H Q := h
theorem g_yes {R : Bool → Hp → Prop} (h : R true H) : tYes σ H R := h
theorem if_tt {A B : Prop} (h : A) : if true = true then A else B := h
theorem if_ff {A B : Prop} (h : B) : if false = true then A else B := h
theorem if_nt {A B : Prop} (h : B) : if (!true) = true then A else B := h
theorem if_nf {A B : Prop} (h : A) : if (!false) = true then A else B := h
theorem g_asg2 {te : TE} {g1 g2 : TG} (h : te σ H fun x H1 => g1 x σ H1 fun σ1 H2 => g2 x σ1 H2 n) : tAsg2 te g1 g2 (Ends.mk n r b c) σ H := h
theorem g_par3 {i j l : Nat} {ta : TA} (h : ta σ H fun vs H1 => ∃ u v w, vs = [u, v, w] ∧ n (((σ.set i (some u)).set j (some v)).set l (some w)) H1) : tPar3 i j l ta (Ends.mk n r b c) σ H := h
theorem g_par3_ {u v w : V} {N : V → V → V → Prop} (h : N u v w) : ∃ u' v' w', [u, v, w] = [u', v', w'] ∧ N u' v' w' := ⟨u, v, w, rfl, h⟩
theorem g_chain {rr rr' : R2} {ta tb tc : TE} (h : ta σ H fun x H1 => tb σ H1 fun y H2 => rr x y H2 fun z H3 => ∃ k, z = .bl k ∧ (if k = true then tc σ H3 fun v H4 => rr' y v H4 Q else Q (.bl false) H3)) : tChain rr rr' ta tb tc σ H Q := h
theorem g_if {t : TT} {ta tb : TE} (h : t σ H fun k H1 => if k = true then ta σ H1 Q else tb σ H1 Q) : tIf t ta tb σ H Q := h
theorem g_nil {R : List V → Hp → Prop} (h : R [] H) : tNil σ H R := h
theorem g_cons {ta : TE} {tr : TA} {R : List V → Hp → Prop} (h : ta σ H fun x H1 => tr σ H1 fun xs H2 => R (x :: xs) H2) : tCons ta tr σ H R := h
def NewT (xs : List V) (H : Hp) (Q : VK) : Prop := xs.length ≤ sizeLine ∧ ∀ p, H p = none → Q (.ref p) (upd H p (.tup xs))
def NewL (xs : List V) (H : Hp) (Q : VK) : Prop := xs.length ≤ sizeLine ∧ ∀ p, H p = none → Q (.ref p) (upd H p (.lst xs))
theorem g_tup {ta : TA} (h : ta σ H fun xs H1 => NewT xs H1 Q) : tTup ta σ H Q := h
theorem g_lst {ta : TA} (h : ta σ H fun xs H1 => NewL xs H1 Q) : tLst ta σ H Q := h
theorem g_newT {xs : List V} (l : xs.length ≤ 100000) (h : ∀ p H', H p = none → Ex H H' → H' p = some (.tup xs) → Q (.ref p) H') :
    NewT xs H Q := ⟨Nat.le_trans l (by decide), fun p hp => h p _ hp (Evl.Ex.new hp) upd_same⟩
theorem g_newL {xs : List V} (l : xs.length ≤ 100000) (h : ∀ p H', H p = none → Ex H H' → H' p = some (.lst xs) → Q (.ref p) H') :
    NewL xs H Q := ⟨Nat.le_trans l (by decide), fun p hp => h p _ hp (Evl.Ex.new hp) upd_same⟩
theorem g_CB {rr : List V → Hp → VK → Prop} {t : TA} (h : t σ H fun vs H1 => rr vs H1 Q) : tCB rr t σ H Q := h
theorem g_call {sp : Sp} {E : XK} {t : TA} (h : t σ H fun vs H1 => sp vs H1 Q E) : tCall sp [] E t σ H Q := by
  show t σ H fun vs H1 => sp (vs ++ []) H1 Q E
  have e : (fun vs H1 => sp (vs ++ []) H1 Q E) = fun vs H1 => sp vs H1 Q E := by
    funext vs H1
    rw [List.append_nil]
  rw [e]
  exact h
theorem g_name {i : Nat} {v : V} (h : n (σ.set i (some v)) H) : gName i v σ H n := h
theorem g_gtup {K : PySem.W.Frag} {a : Addr} {xs : List V} {k : Nat} {t : TGs} (q : SqT K H a xs) (l : xs.length = k) (h : t xs σ H n) : gTup K k t (.ref a) σ H n := ⟨a, xs, rfl, q, l, h⟩
theorem g_gnil (h : n σ H) : gNil [] σ H n := ⟨rfl, h⟩
theorem g_gcons {t : TG} {u : TGs} {v : V} {rest : List V} (h : t v σ H fun σ' H' => u rest σ' H' n) : gCons t u (v :: rest) σ H n := ⟨v, rest, rfl, h⟩
theorem g_for {wi : TI} {g : TG} {tb : TS} (h : wi σ H fun J H1 => ∃ W : Nat → Nat → St → Hp → Prop, (∃ m, W 0 m σ H1) ∧ ∀ i m σ H, W i m σ H →
    (J.stop i H ∧ n σ H) ∨ (J.go i H ∧ ∃ N : St → Hp → Prop, (∀ σ' H', N σ' H' → ∃ m', m' < m ∧ W (i + 1) m' σ' H') ∧ ∀ x H', J.yld i H x H' → g x σ H' fun σ2 H2 => tb (Ends.mk N r n N) σ2 H2)) :
    tFor wi g tb (Ends.mk n r b c) σ H := h
theorem g_iTup {K : PySem.W.Frag} {tl : TE} {R : It → Hp → Prop} (h : tl σ H fun x H1 => ∃ a, x = .ref a ∧ (∃ xs, SqT K H1 a xs) ∧ R (Itt K a) H1) : iTup K tl σ H R := h
theorem g_iList {K : PySem.W.Frag} {tl : TE} {R : It → Hp → Prop} (h : tl σ H fun x H1 => ∃ a, x = .ref a ∧ (∃ xs, SqL K H1 a xs) ∧ R (Itl K a) H1) : iList K tl σ H R := h
theorem g_rng1 {ta : TA} {R : It → Hp → Prop} (h : ta σ H fun vs H1 => ∃ j : Int, vs = [.int j] ∧ -(2 ^ 62) ≤ j ∧ j < 2 ^ 62 ∧ R (Itr 0 j.toNat) H1) : iRng1 ta σ H R := h
theorem g_rng2 {ta : TA} {R : It → Hp → Prop} (h : ta σ H fun vs H1 => ∃ i j : Int, vs = [.int i, .int j] ∧ (-(2 ^ 62) ≤ i ∧ i < 2 ^ 62 ∧ -(2 ^ 62) ≤ j ∧ j < 2 ^ 62) ∧ R (Itr i (j - i).toNat) H1) : iRng2 ta σ H R := h
theorem g_ixT {K : PySem.W.Frag} {p : Addr} {xs : List V} {i : Int} {v : V} (q : SqT K H p xs) (e : atI xs i = some v) (h : Q v H) : rIxT K (.ref p) (.int i) H Q := ⟨p, xs, i, v, rfl, rfl, q, e, h⟩
theorem g_ixL {K : PySem.W.Frag} {p : Addr} {xs : List V} {i : Int} {v : V} (q : SqL K H p xs) (e : atI xs i = some v) (h : Q v H) : rIxL K (.ref p) (.int i) H Q := ⟨p, xs, i, v, rfl, rfl, q, e, h⟩
theorem if_t {A B : Prop} {k : Bool} (e : k = true) (h : A) : if k = true then A else B := by rw [if_pos e]; exact h
theorem if_f {A B : Prop} {k : Bool} (e : k = false) (h : B) : if k = true then A else B := by rw [if_neg (by rw [e]; decide)]; exact h
theorem if_b {A B : Prop} {k : Bool} (h1 : k = true → A) (h2 : k = false → B) : if k = true then A else B := by
  cases k with
  | true => exact if_t rfl (h1 rfl)
  | false => exact if_f rfl (h2 rfl)
end
/-! ### calls of built-ins, named -/
def r_int : List V → Hp → VK → Prop := fun xs H Q => (∃ i, xs = [.int i] ∧ Q (.int i) H) ∨ ∃ k, xs = [.bl k] ∧ Q (.int (if k then 1 else 0)) H
def r_abs : List V → Hp → VK → Prop := fun xs H Q => ∃ i, xs = [.int i] ∧ Q (.int (if i < 0 then -i else i)) H
def r_tupleOf (K : PySem.W.Frag) : List V → Hp → VK → Prop := fun xs H Q => ∃ p ys, xs = [.ref p] ∧
  ((SqL K H p ys ∧ ∀ l, H l = none → Q (.ref l) (upd H l (.tup ys))) ∨ (SqT K H p ys ∧ Q (.ref p) H))
def r_isN : R2 := fun x y H Q => y = .non ∧ Q (.bl (decide (x = .non))) H
def r_notN : R2 := fun x y H Q => y = .non ∧ Q (.bl (!decide (x = .non))) H
section
variable {K : PySem.W.Frag} {w : World} {H : Hp} {Q : VK} {a : Addr} {xs ys : List V}
theorem g_tupleOfL (q : SqL K H a xs) (h : ∀ p H', H p = none → Ex H H' → H' p = some (.tup xs) → Q (.ref p) H') : r_tupleOf K [.ref a] H Q :=
  ⟨a, xs, rfl, .inl ⟨q, fun p hp => h p _ hp (Evl.Ex.new hp) upd_same⟩⟩
theorem g_listOfT (q : SqT K H a xs) (h : ∀ p H', H p = none → Ex H H' → H' p = some (.lst xs) → Q (.ref p) H') : Evl.rListS K [.ref a] H Q :=
  ⟨a, xs, rfl, .inr q, fun p hp => h p _ hp (Evl.Ex.new hp) upd_same⟩
theorem g_lenL (q : SqL K H a xs) (h : Q (.int (xs.length : Int)) H) : Evl.rLenS K [.ref a] H Q := ⟨a, xs, rfl, .inl q, h⟩
theorem g_lenT (q : SqT K H a xs) (h : Q (.int (xs.length : Int)) H) : Evl.rLenS K [.ref a] H Q := ⟨a, xs, rfl, .inr q, h⟩
theorem g_cat {b : Addr} (q : H a = some (.lst xs)) (q' : H b = some (.lst ys)) (l : xs.length + ys.length ≤ 100000) (h : ∀ p H', H p = none → Ex H H' → H' p = some (.lst (xs ++ ys)) → Q (.ref p) H') : rCat (.ref a) (.ref b) H Q :=
  ⟨a, b, xs, ys, rfl, rfl, q, q', Nat.le_trans l (by decide), fun p hp => h p _ hp (Evl.Ex.new hp) upd_same⟩
theorem g_sortedSet {S : Int → Bool} {n : Nat} (q : H a = some (SetO w a S n)) (l : n < 64)
    (h : ∀ (ns : List Int) p H', H p = none → Ex H H' → H' p = some (.lst (ns.map V.int)) → ns.Pairwise (· < ·) → (∀ k : Int, k ∈ ns ↔ S k = true) → Q (.ref p) H') : rSortedSet w [.ref a] H Q :=
  ⟨a, S, n, rfl, q, l, fun ns p h1 h2 _ hp => h ns p _ hp (Evl.Ex.new hp) upd_same h1 h2⟩
theorem g_int {i : Int} (h : Q (.int i) H) : r_int [.int i] H Q := .inl ⟨i, rfl, h⟩
theorem g_abs {i : Int} (h : Q (.int (if i < 0 then -i else i)) H) : r_abs [.int i] H Q := ⟨i, rfl, h⟩
/-- isinstance(x, T), by the types' names -/
theorem g_isi {x : V} {T U : String} {b : Bool} (t : TyX K H x (.type T)) (k : kitB T U = some b) (h : Q (.bl b) H) : rIsi K [x, .ty U] H Q :=
  ⟨x, .ty U, _, _, b, rfl, .ty U, t, kit_ty k, h⟩
theorem g_isiT {x : V} {T U U' : String} {b b' : Bool} {tp : Addr} (h0 : H tp = some (.tup [.ty U, .ty U'])) (t : TyX K H x (.type T)) (k : kitB T U = some b) (k' : kitB T U' = some b') (h : Q (.bl (b || b')) H) : rIsiT K [x, .ref tp] H Q := by
  refine ⟨x, tp, _, _, _, b || b', rfl, h0, .cons (.ty U) (.cons (.ty U') .nil), t, ?_, h⟩
  refine kitAny_cons (kit_ty k) (fun e => ?_) (fun e => by rw [e] <;> rfl)
  refine kitAny_cons (kit_ty k') (fun e' => by rw [e, e']; exact kitAny_nil) (fun e' => by rw [e, e'] <;> rfl)
theorem g_same {x : V} (e : scal x x = true) (h : Q (.bl true) H) : rEq x x H Q := ⟨e, by rw [decide_eq_true (rfl : x = x)]; exact h⟩
theorem g_isB {i j : Bool} (h : Q (.bl (decide (i = j))) H) : rIsB (.bl i) (.bl j) H Q := ⟨i, j, rfl, rfl, h⟩
theorem g_notB {i j : Bool} (h : Q (.bl (!decide (i = j))) H) : rNotB (.bl i) (.bl j) H Q := ⟨i, j, rfl, rfl, h⟩
theorem g_isN {x : V} (h : Q (.bl (decide (x = .non))) H) : r_isN x .non H Q := ⟨rfl, h⟩
theorem g_notN {x : V} (h : Q (.bl (!decide (x = .non))) H) : r_notN x .non H Q := ⟨rfl, h⟩
theorem g_app {l : Addr} {y : V} (q : H l = some (.lst xs)) (h5 : xs.length < 100000) (h : ∀ H', H' = upd H l (.lst (xs ++ [y])) → Q .non H') : rAppend (.ref l) [y] H Q :=
  ⟨l, xs, y, rfl, rfl, q, Nat.lt_of_lt_of_le h5 (by decide), h _ rfl⟩
theorem g_tbm {σ : St} {to : TE} {t : TA} {rr : V → List V → Hp → VK → Prop} (h : to σ H fun x H1 => (∃ a xs, x = .ref a ∧ SqL K H1 a xs) ∧ t σ H1 fun xs H2 => rr x xs H2 Q) (mono : ∀ R R' : VK, (∀ v H', R v H' → R' v H') → to σ H R → to σ H R') : tBM K "list" rr to t σ H Q := by
  refine mono _ _ ?_ h
  rintro v H' ⟨⟨a, xs, rfl, q⟩, k⟩
  exact ⟨.inl ⟨rfl, xs, q⟩, k⟩
theorem g_tbmV {σ : St} {i : Nat} {t : TA} {rr : V → List V → Hp → VK → Prop} (e : σ[i]? = some (some (.ref a))) (q : SqL K H a xs) (h : t σ H fun ys H2 => rr (.ref a) ys H2 Q) : tBM K "list" rr (tVar i) t σ H Q :=
  ⟨_, e, .inl ⟨rfl, xs, q⟩, h⟩
theorem g_maxL {a : Addr} {ns : List Int} (q : SqL K H a (ns.map V.int)) (l : 0 < ns.length) (h : ∀ m, m ∈ ns → (∀ y, y ∈ ns → y ≤ m) → Q (.int m) H) : rMax K [.ref a] H Q := ⟨a, ns, rfl, q, l, h⟩
theorem g_intB {b : Bool} (h : Q (.int (if b then 1 else 0)) H) : r_int [.bl b] H Q := .inr ⟨b, rfl, h⟩
theorem g_gunl {σ : St} {a : Addr} {xs : List V} {k : Nat} {t : TGs} {n : St → Hp → Prop} (q : SqL K H a xs) (l : xs.length = k) (h : t xs σ H n) : gUnl K k t (.ref a) σ H n := ⟨a, xs, rfl, q, l, h⟩
theorem dp_int {v : V} {i : Int} (h : Dp K H v (.int i)) : v = .int i := by cases h; rfl
theorem cmul_r {i j : Int} (h1 : -(2 ^ 64) < j) (h2 : j < 2 ^ 64) : CMul i j := .inr ⟨h1, h2⟩
theorem cmul_l {i j : Int} (h1 : -(2 ^ 64) < i) (h2 : i < 2 ^ 64) : CMul i j := .inl ⟨h1, h2⟩
theorem cdiv_of {i j : Int} (h1 : 0 < j) (h2 : j < 2 ^ 64) : CDivW i j := wide_div (b := 64) h1 (by omega) (by decide) (by decide)
theorem cpow_of {i j : Int} (h1 : 0 ≤ j) (h2 : j ≤ 1000000) (h3 : i.natAbs < 2 ^ 64) : CPow i j := ⟨h1, h2, h3⟩
theorem g_sub {σ : St} {H : Hp} {to ti : TE} {t : TSet} {v : V} {n : St → Hp → Prop} (h : to σ H fun o H1 => ti σ H1 fun i H2 => t o i v H2 fun H3 => n σ H3) : gSub to ti t v σ H n := h
theorem g_setL {p : Addr} {xs : List V} {k : Int} {j : Nat} {v : V} {H : Hp} {R : Hp → Prop} (q : H p = some (.lst xs)) (e : ixN xs.length k = some j)
    (h : ∀ H', Fr p H H' → H' p = some (.lst (xs.set j v)) → R H') : rSetL (.ref p) (.int k) v H R := ⟨p, xs, k, j, rfl, rfl, q, e, h _ Fr.upd upd_same⟩
theorem room65 {k : Nat} {A : Around} (r : Room k A) : A.units + 65 < cLine := by
  have := r.un
  omega
theorem atI_of {α : Type} {xs : List α} {i : Int} {v : α} (h : 0 ≤ i) (e : xs[i.toNat]? = some v) : atI xs i = some v := by
  have q := atI_nat e
  rw [Int.toNat_of_nonneg h] at q
  exact q
theorem atI_end {α : Type} {xs : List α} {v : α} (e : xs.getLast? = some v) : atI xs (-1) = some v := by
  obtain ⟨ys, rfl⟩ := List.getLast?_eq_some_iff.mp e
  exact atI_last ys v
/-! ### the row of draws -/
/-- a row: its address, its script's, the script's ints -/
abbrev Rw := Addr × Addr × List Int
/-- the script: read, whatever the row is -/
def Scr (K : PySem.W.Frag) (H : Hp) (ρ : Rw) : Prop := ∀ H', Fr ρ.1 H H' → SqL K H' ρ.2.1 (ρ.2.2.map V.int)
def Row (K : PySem.W.Frag) (H : Hp) (ρ : Rw) : Prop := ∃ i s t : Int, H ρ.1 = some (.lst [.ref ρ.2.1, .int i, .int s, .int t]) ∧ Scr K H ρ ∧ 0 ≤ i ∧ 0 ≤ s ∧ s < 2 ^ 40
section
variable {K : PySem.W.Frag} {H H' H0 : Hp} {ρ : Rw}
theorem Scr.fr (h : Scr K H ρ) (e : Fr ρ.1 H H') : Scr K H' ρ := fun G f => h G (e.trans f)
theorem Row.lst (h : Row K H ρ) : ∃ xs, H ρ.1 = some (.lst xs) := by
  obtain ⟨i, s, t, h, _⟩ := h
  exact ⟨_, h⟩
theorem Row.tr (h : Row K H ρ) (e : Fr ρ.1 H H') : TrT K H H' := by
  obtain ⟨xs, h⟩ := h.lst
  exact TrT.fr h e
theorem Row.ex (h : Row K H ρ) (e : Ex H H') : Row K H' ρ := by
  obtain ⟨i, s, t, h, k, b⟩ := h
  exact ⟨i, s, t, e _ _ h, k.fr (Fr.of e), b⟩
/-- an object that the first heap does not have changes -/
theorem Row.mut {l : Addr} {o : HO} (h0 : Row K H0 ρ) (h : Row K H ρ) (e : Fr ρ.1 H0 H) (n : H0 l = none) : Row K (L2.upd H l o) ρ := by
  obtain ⟨i, s, t, h, k, b⟩ := h
  obtain ⟨xs, q⟩ := h0.lst
  obtain ⟨_, _, _, _, k0, _⟩ := h0
  have ne : ρ.1 ≠ l := ne_of_none q n
  exact ⟨i, s, t, by rw [upd_ne ne]; exact h, k0.fr (Fr.mut e n), b⟩
end
theorem ty_int {i : Int} : TyX K H (.int i) (.type "int") := .base (.int i)
theorem ty_str {i : Str} : TyX K H (.str i) (.type "str") := .base (.str i)
theorem ty_bl {i : Bool} : TyX K H (.bl i) (.type "bool") := .base (.bl i)
theorem ty_non : TyX K H .non (.type "NoneType") := .base .non
theorem ty_tup (q : SqT K H a xs) : TyX K H (.ref a) (.type "tuple") := by
  rcases q with (q | ⟨o, q⟩) | q
  · exact .base (.tup q)
  · exact .fTuple q
  · obtain ⟨o, its, n, e, c, _⟩ := q
    exact .kTuple e c
theorem ty_lst (q : H a = some (.lst xs)) : TyX K H (.ref a) (.type "list") := .base (.lst q)
end
theorem if_d {A B : Prop} {p : Prop} [Decidable p] (h1 : p → A) (h2 : ¬ p → B) : if decide p = true then A else B :=
  if_b (fun h => h1 (of_decide_eq_true h)) (fun h => h2 (of_decide_eq_false h))
theorem if_nd {A B : Prop} {p : Prop} [Decidable p] (h1 : ¬ p → A) (h2 : p → B) : if (!decide p) = true then A else B :=
  if_b (fun h => h1 fun q => by rw [decide_eq_true q] at h; cases h) (fun h => h2 (by
    cases e : decide p with
    | true => exact of_decide_eq_true e
    | false => rw [e] at h; cases h))
/-! ### a cut: what follows is shown once -/
section
variable {σ : St} {H : Hp} {n : St → Hp → Prop} {r : VK} {b c : St → Hp → Prop} {Q : VK}
theorem cutE {te : TE} (Post : VK) (ev : ∀ Q' : VK, (∀ v H', Post v H' → Q' v H') → te σ H Q') (k : ∀ v H', Post v H' → Q v H') : te σ H Q := ev Q k
theorem cutS {ts : TS} (Mid : St → Hp → Prop) (ev : ∀ n' : St → Hp → Prop, (∀ σ' H', Mid σ' H' → n' σ' H') → ts (Ends.mk n' r b c) σ H) (k : ∀ σ' H', Mid σ' H' → n σ' H') : ts (Ends.mk n r b c) σ H := ev n k
end
/-! ### dicts with written text keys -/
section
variable {σ : St} {H H0 : Hp} {Q : VK}
def DispEnd (p : Addr) (ps : List (V × V)) (H : Hp) (Q : VK) : Prop := H p = some (.dK []) ∧ ∃ kvs : List (Key × V), ps = kvs.map (fun kv => (kV kv.1, kv.2)) ∧ kvs.length ≤ 15 ∧ Q (.ref p) (upd H p (.dK (mergeK [] kvs)))
theorem g_disp {trs : List (TE × TE)} (h : ∀ p H', H p = none → Ex H H' → H' p = some (.dK []) → tPairs trs σ H' fun ps H2 => DispEnd p ps H2 Q) : tDisp trs σ H Q :=
  fun p hp => h p _ hp (Evl.Ex.new hp) upd_same
theorem g_pcons {tk tv : TE} {r : List (TE × TE)} {R : List (V × V) → Hp → Prop} (h : tk σ H fun x H1 => tv σ H1 fun y H2 => tPairs r σ H2 fun ps H3 => R ((x, y) :: ps) H3) : tPairs ((tk, tv) :: r) σ H R := h
theorem g_pnil {R : List (V × V) → Hp → Prop} (h : R [] H) : tPairs [] σ H R := h
theorem g_dispEnd {p : Addr} {ps : List (V × V)} (kvs : List (Key × V)) (n : H0 p = none) (e : Ex H0 H) (q : H p = some (.dK [])) (eq : ps = kvs.map (fun kv => (kV kv.1, kv.2))) (l : kvs.length ≤ 15)
    (h : ∀ H3, Ex H0 H3 → Fr p H H3 → H3 p = some (.dK (mergeK [] kvs)) → Q (.ref p) H3) : DispEnd p ps H Q := ⟨q, kvs, eq, l, h _ (Evl.Ex.mut e n) Fr.upd upd_same⟩
def DGetR (a : Addr) (z : V) (y : V) (H : Hp) (Q : VK) : Prop := ∃ o, DGet H a y o ∧ Q (o.getD z) H
theorem g_dget2 {td ty tx : TE} (h : td σ H fun x H1 => ∃ a, x = .ref a ∧ IsD H1 a ∧ ty σ H1 fun y H2 => tx σ H2 fun z H3 => DGetR a z y H3 Q) : tDGet2 td ty tx σ H Q := h
theorem g_isD {a : Addr} {kvs : List (Key × V)} {R : Addr → Prop} (q : H a = some (.dK kvs)) (h : R a) : ∃ a', V.ref a = V.ref a' ∧ IsD H a' ∧ R a' := ⟨a, rfl, .inl ⟨kvs, .inl q⟩, h⟩
theorem g_dgetR {a : Addr} {z : V} {x : Str} {kvs : List (Key × V)} (q : H a = some (.dK kvs)) (h : Q ((valV kvs (Sum.inr x : Key)).getD z) H) : DGetR a z (.str x) H Q := ⟨_, DGet.k (k := Sum.inr x) q, h⟩
end
/-! ### loops over data -/
section
variable {α : Type} {K : PySem.W.Frag} {a : Addr} {xs : List V} {g : TG} {tb : TS} {n : St → Hp → Prop} {r : VK} {σ : St} {H : Hp} {ds : List α} {F : Hp → V → α → Prop}
theorem at_drop {i : Nat} {x : V} (hp : Paired (F H) xs ds) (hi : xs[i]? = some x) : ∃ d, F H x d ∧ ds.drop i = d :: ds.drop (i + 1) := by
  have L := Paired.length hp
  have lt : i < ds.length := by rw [← L]; exact (List.getElem?_eq_some_iff.mp hi).1
  obtain ⟨y, hy, hv⟩ := pd_get hp hi
  have ey : y = ds[i] := by
    rw [List.getElem?_eq_getElem lt] at hy
    exact (Option.some.inj hy).symm
  exact ⟨y, hv, by rw [ey]; exact List.drop_eq_getElem_cons lt⟩
theorem at_end (hp : Paired (F H) xs ds) : ds.drop xs.length = [] := by rw [Paired.length hp, List.drop_length]
/-- for x in a tuple -/
theorem g_forT (hx : SqT K H a xs) (hp : Paired (F H) xs ds) (Iv : List α → St → Hp → Prop) (h0 : Iv ds σ H)
    (keep : ∀ l σ' H', Iv l σ' H' → SqT K H' a xs ∧ ∀ x d, F H x d → F H' x d)
    (step : ∀ d l x σ' H', Iv (d :: l) σ' H' → F H' x d → g x σ' H' fun σ2 H2 => tb (Ends.mk (Iv l) r n (Iv l)) σ2 H2)
    (last : ∀ σ' H', Iv [] σ' H' → n σ' H') :
    ∃ a', V.ref a = V.ref a' ∧ (∃ xs, SqT K H a' xs) ∧ ∃ W : Nat → Nat → St → Hp → Prop, (∃ m, W 0 m σ H) ∧ ∀ i m σ H, W i m σ H →
      ((Itt K a').stop i H ∧ n σ H) ∨ ((Itt K a').go i H ∧ ∃ N : St → Hp → Prop, (∀ σ' H', N σ' H' → ∃ m', m' < m ∧ W (i + 1) m' σ' H') ∧ ∀ x H', (Itt K a').yld i H x H' → g x σ H' fun σ2 H2 => tb (Ends.mk N r n N) σ2 H2) := by
  refine ⟨a, rfl, ⟨xs, hx⟩, for_tup (K := K) (xs := xs) (D := Ends.mk n r n n) (fun i σ' H' => Iv (ds.drop i) σ' H') h0 (fun i σ' H' _ q => (keep _ _ _ q).1) ?_ ?_⟩
  · intro i x σ' H' hi q
    obtain ⟨d, hd, e⟩ := at_drop hp hi
    rw [e] at q
    exact step d _ x σ' H' q ((keep _ _ _ q).2 x d hd)
  · intro σ' H' q
    rw [at_end hp] at q
    exact last _ _ q
/-- for x in a list -/
theorem g_forL (hx : SqL K H a xs) (hp : Paired (F H) xs ds) (Iv : List α → St → Hp → Prop) (h0 : Iv ds σ H)
    (keep : ∀ l σ' H', Iv l σ' H' → SqL K H' a xs ∧ ∀ x d, F H x d → F H' x d)
    (step : ∀ d l x σ' H', Iv (d :: l) σ' H' → F H' x d → g x σ' H' fun σ2 H2 => tb (Ends.mk (Iv l) r n (Iv l)) σ2 H2)
    (last : ∀ σ' H', Iv [] σ' H' → n σ' H') :
    ∃ a', V.ref a = V.ref a' ∧ (∃ xs, SqL K H a' xs) ∧ ∃ W : Nat → Nat → St → Hp → Prop, (∃ m, W 0 m σ H) ∧ ∀ i m σ H, W i m σ H →
      ((Itl K a').stop i H ∧ n σ H) ∨ ((Itl K a').go i H ∧ ∃ N : St → Hp → Prop, (∀ σ' H', N σ' H' → ∃ m', m' < m ∧ W (i + 1) m' σ' H') ∧ ∀ x H', (Itl K a').yld i H x H' → g x σ H' fun σ2 H2 => tb (Ends.mk N r n N) σ2 H2) := by
  refine ⟨a, rfl, ⟨xs, hx⟩, for_list (K := K) (xs := xs) (D := Ends.mk n r n n) (fun i σ' H' => Iv (ds.drop i) σ' H') h0 (fun i σ' H' _ q => (keep _ _ _ q).1) ?_ ?_⟩
  · intro i x σ' H' hi q
    obtain ⟨d, hd, e⟩ := at_drop hp hi
    rw [e] at q
    exact step d _ x σ' H' q ((keep _ _ _ q).2 x d hd)
  · intro σ' H' q
    rw [at_end hp] at q
    exact last _ _ q
/-- for k in range(j) -/
theorem g_forR {j : Int} (h1 : j < 2 ^ 62) (h2 : -(2 ^ 62) ≤ j) (Iv : Nat → St → Hp → Prop) (h0 : Iv 0 σ H)
    (step : ∀ i σ' H', i < j.toNat → Iv i σ' H' → g (.int (i : Int)) σ' H' fun σ2 H2 => tb (Ends.mk (Iv (i + 1)) r n (Iv (i + 1))) σ2 H2)
    (last : ∀ σ' H', Iv j.toNat σ' H' → n σ' H') :
    ∃ j' : Int, [V.int j] = [V.int j'] ∧ -(2 ^ 62) ≤ j' ∧ j' < 2 ^ 62 ∧ ∃ W : Nat → Nat → St → Hp → Prop, (∃ m, W 0 m σ H) ∧ ∀ i m σ H, W i m σ H →
      ((Itr 0 j'.toNat).stop i H ∧ n σ H) ∨ ((Itr 0 j'.toNat).go i H ∧ ∃ N : St → Hp → Prop, (∀ σ' H', N σ' H' → ∃ m', m' < m ∧ W (i + 1) m' σ' H') ∧ ∀ x H', (Itr 0 j'.toNat).yld i H x H' → g x σ H' fun σ2 H2 => tb (Ends.mk N r n N) σ2 H2) := by
  refine ⟨j, rfl, h2, h1, for_range (lo := 0) (n := j.toNat) (D := Ends.mk n r n n) Iv h0 ?_ last⟩
  intro i σ' H' hi q
  have e : (0 : Int) + (i : Int) = (i : Int) := Int.zero_add _
  rw [e]
  exact step i σ' H' hi q
end
/-! ### comprehensions over data -/
section
variable {α : Type} {K : PySem.W.Frag} {a : Addr} {xs : List V} {g : TG} {tt : TT} {te : TE} {vs : List Nat} {σ : St} {H : Hp} {ds : List α} {F : Hp → V → α → Prop} {Q : VK}
theorem filt_all (ds : List α) : ds.filter (fun _ => true) = ds := List.filter_eq_self.mpr fun _ _ => rfl
/-- what the first turns have given -/
def gave (f : α → Bool) (v : α → V) (ds : List α) (i : Nat) : List V := ((ds.take i).filter f).map v
theorem gave_len (f : α → Bool) (v : α → V) (ds : List α) (i : Nat) : (gave f v ds i).length ≤ ds.length := by
  unfold gave
  rw [List.length_map]
  exact Nat.le_trans (List.length_filter_le _ _) (by rw [List.length_take]; omega)
theorem gave_next {f : α → Bool} {v : α → V} {ds : List α} {i : Nat} {d : α} {r : List α} (e : ds.drop i = d :: r) :
    gave f v ds (i + 1) = gave f v ds i ++ (if f d = true then [v d] else []) := by
  have h : ds[i]? = some d := by
    have q : (ds.drop i)[0]? = some d := by rw [e] <;> rfl
    rw [List.getElem?_drop] at q
    exact q
  unfold gave
  rw [List.take_add_one, h]
  show (List.filter f (List.take i ds ++ [d])).map v = _
  rw [List.filter_append, List.map_append]
  cases q : f d with
  | true => rw [if_pos rfl, List.filter_cons, if_pos q] <;> rfl
  | false => rw [if_neg (by decide), List.filter_cons, if_neg (by rw [q]; decide)] <;> rfl
theorem gave_all (f : α → Bool) (v : α → V) (ds : List α) : gave f v ds ds.length = (ds.filter f).map v := by
  unfold gave
  rw [List.take_length]
def LcW (H : Hp) (D : Addr) (f : α → Bool) (v : α → V) (ds : List α) (i : Nat) (H' : Hp) : Prop := H D = none ∧ Ex H H' ∧ H' D = some (.lst (gave f v ds i))
/-- one turn, its continuations open -/
def LcT (g : TG) (tt : TT) (te : TE) (vs : List Nat) (σ : St) (f : α → Bool) (v : α → V) (x : V) (d : α) (H' : Hp) : Prop :=
  ∀ (R : Hp → Prop) (S : VK), (f d = false → ∀ H3, Ex H' H3 → R H3) → (f d = true → ∀ H3, Ex H' H3 → S (v d) H3) →
    g x (wipe σ vs) H' fun σ2 H2 => wipe σ2 vs = wipe σ vs ∧ tt σ2 H2 fun b H3 => if b = true then te σ2 H3 S else R H3
theorem lc_turn {D : Addr} {f : α → Bool} {v : α → V} {i : Nat} {x : V} {d : α} {H' : Hp} {rest : List α} (hz : ds.length ≤ 100000) (w : LcW H D f v ds i H') (e : ds.drop i = d :: rest) (t : LcT g tt te vs σ f v x d H') :
    g x (wipe σ vs) H' fun σ2 H2 => wipe σ2 vs = wipe σ vs ∧ tt σ2 H2 fun b H3 =>
      if b = true then te σ2 H3 fun y H4 => ∃ acc, H4 D = some (.lst acc) ∧ acc.length < sizeLine ∧ LcW H D f v ds (i + 1) (upd H4 D (.lst (acc ++ [y]))) else LcW H D f v ds (i + 1) H3 := by
  obtain ⟨w1, w2, w3⟩ := w
  have en := gave_next (f := f) (v := v) e
  refine t _ _ (fun hf H3 e3 => ⟨w1, w2.trans e3, ?_⟩) (fun hf H3 e3 => ⟨_, e3 D _ w3, ?_, w1, Evl.Ex.mut (w2.trans e3) w1, ?_⟩)
  · rw [en, hf, if_neg (by decide), List.append_nil]
    exact e3 D _ w3
  · exact Nat.lt_of_le_of_lt (Nat.le_trans (gave_len f v ds i) hz) (by decide)
  · rw [en, hf, if_pos rfl]
    exact upd_same
/-- a comprehension over the value that its iterable has given -/
def tLcT (K : PySem.W.Frag) (x : V) (g : TG) (tt : TT) (te : TE) (vs : List Nat) : TE := tLc (iTup K fun _ H1 R => R x H1) g tt te vs
def tLcL (K : PySem.W.Frag) (x : V) (g : TG) (tt : TT) (te : TE) (vs : List Nat) : TE := tLc (iList K fun _ H1 R => R x H1) g tt te vs
theorem g_lcTup {tl : TE} (h : tl σ H fun x H1 => tLcT K x g tt te vs σ H1 Q) : tLc (iTup K tl) g tt te vs σ H Q := h
theorem g_lcList {tl : TE} (h : tl σ H fun x H1 => tLcL K x g tt te vs σ H1 Q) : tLc (iList K tl) g tt te vs σ H Q := h
theorem g_lcRng1 {ta : TA} (h : ta σ H fun us H1 => tLc (iRng1 fun _ H2 R => R us H2) g tt te vs σ H1 Q) : tLc (iRng1 ta) g tt te vs σ H Q := h
theorem g_lcRng2 {ta : TA} (h : ta σ H fun us H1 => tLc (iRng2 fun _ H2 R => R us H2) g tt te vs σ H1 Q) : tLc (iRng2 ta) g tt te vs σ H Q := h
theorem g_lcT (hx : SqT K H a xs) (hp : Paired (F H) xs ds) (hz : ds.length ≤ 100000) (f : α → Bool) (v : α → V)
    (mono : ∀ H' x d, Ex H H' → F H x d → F H' x d)
    (step : ∀ d x H', Ex H H' → F H' x d → LcT g tt te vs σ f v x d H')
    (last : ∀ D H', H D = none → Ex H H' → H' D = some (.lst ((ds.filter f).map v)) → Q (.ref D) H') :
    tLcT K (.ref a) g tt te vs σ H Q := by
  refine ⟨a, rfl, ⟨xs, hx⟩, fun D hD => lc_tup (K := K) (xs := xs) (LcW H D f v ds) ⟨hD, Evl.Ex.new hD, upd_same⟩ (fun i H' _ p => Evl.ex_t p.2.1 hx) ?_ ?_⟩
  · intro i x H' hi p
    obtain ⟨d, hd, e⟩ := at_drop hp hi
    exact lc_turn hz p e (step d x H' p.2.1 (mono _ _ _ p.2.1 hd))
  · intro H' p
    obtain ⟨p1, p2, p3⟩ := p
    rw [Paired.length hp, gave_all] at p3
    exact last D H' p1 p2 p3
theorem g_lcL (hx : SqL K H a xs) (hp : Paired (F H) xs ds) (hz : ds.length ≤ 100000) (f : α → Bool) (v : α → V)
    (mono : ∀ H' x d, Ex H H' → F H x d → F H' x d)
    (step : ∀ d x H', Ex H H' → F H' x d → LcT g tt te vs σ f v x d H')
    (last : ∀ D H', H D = none → Ex H H' → H' D = some (.lst ((ds.filter f).map v)) → Q (.ref D) H') :
    tLcL K (.ref a) g tt te vs σ H Q := by
  refine ⟨a, rfl, ⟨xs, hx⟩, fun D hD => lc_list (K := K) (xs := xs) (LcW H D f v ds) ⟨hD, Evl.Ex.new hD, upd_same⟩ (fun i H' _ p => Evl.ex_l p.2.1 hx) ?_ ?_⟩
  · intro i x H' hi p
    obtain ⟨d, hd, e⟩ := at_drop hp hi
    exact lc_turn hz p e (step d x H' p.2.1 (mono _ _ _ p.2.1 hd))
  · intro H' p
    obtain ⟨p1, p2, p3⟩ := p
    rw [Paired.length hp, gave_all] at p3
    exact last D H' p1 p2 p3
/-- the list of a range -/
def irange (lo : Int) (n : Nat) : List Int := (List.range n).map fun (i : Nat) => lo + (i : Int)
theorem irange_len (lo : Int) (n : Nat) : (irange lo n).length = n := by unfold irange; rw [List.length_map, List.length_range]
theorem irange_get {lo : Int} {n i : Nat} (h : i < n) : (irange lo n)[i]? = some (lo + (i : Int)) := by
  unfold irange
  rw [List.getElem?_map, List.getElem?_range h]
  rfl
theorem irange_drop {lo : Int} {n i : Nat} (h : i < n) : (irange lo n).drop i = (lo + (i : Int)) :: (irange lo n).drop (i + 1) := by
  have lt : i < (irange lo n).length := by rw [irange_len]; exact h
  rw [List.drop_eq_getElem_cons lt]
  have e := irange_get (lo := lo) h
  rw [List.getElem?_eq_getElem lt] at e
  rw [Option.some.inj e]
theorem lcR_core {lo : Int} {n : Nat} (hz : n ≤ 100000) (f : Int → Bool) (v : Int → V)
    (step : ∀ k H', Ex H H' → lo ≤ k → k < lo + n → LcT g tt te vs σ f v (.int k) k H')
    (last : ∀ D H', H D = none → Ex H H' → H' D = some (.lst (((irange lo n).filter f).map v)) → Q (.ref D) H') :
    ∀ D, H D = none → ∃ W : Nat → Nat → Hp → Prop, (∃ m, W 0 m (upd H D (.lst []))) ∧ ∀ i m H, W i m H →
      ((Itr lo n).stop i H ∧ Q (.ref D) H) ∨ ((Itr lo n).go i H ∧ ∃ Nx : Hp → Prop, (∀ H', Nx H' → ∃ m', m' < m ∧ W (i + 1) m' H') ∧ ∀ x H', (Itr lo n).yld i H x H' → g x (wipe σ vs) H' fun σ2 H2 => wipe σ2 vs = wipe σ vs ∧ tt σ2 H2 fun b H3 =>
        if b = true then te σ2 H3 fun y H4 => ∃ acc, H4 D = some (.lst acc) ∧ acc.length < sizeLine ∧ Nx (upd H4 D (.lst (acc ++ [y]))) else Nx H3) := by
  have len : (irange lo n).length = n := by unfold irange; rw [List.length_map, List.length_range]
  refine fun D hD => lc_range (lo := lo) (n := n) (LcW H D f v (irange lo n)) ⟨hD, Evl.Ex.new hD, upd_same⟩ ?_ ?_
  · intro i H' hi p
    exact lc_turn (by rw [len]; exact hz) p (irange_drop hi) (step _ H' p.2.1 (by omega) (by omega))
  · intro H' p
    obtain ⟨p1, p2, p3⟩ := p
    have e : gave f v (irange lo n) n = ((irange lo n).filter f).map v := by
      have q := gave_all f v (irange lo n)
      rw [len] at q
      exact q
    rw [e] at p3
    exact last D H' p1 p2 p3
theorem g_lcR2 {lo hi : Int} (b1 : -(2 ^ 60) ≤ lo) (b2 : hi ≤ 2 ^ 60) (b3 : lo ≤ hi) (b4 : hi - lo ≤ 100000) (f : Int → Bool) (v : Int → V)
    (step : ∀ k H', Ex H H' → lo ≤ k → k < hi → LcT g tt te vs σ f v (.int k) k H')
    (last : ∀ D H', H D = none → Ex H H' → H' D = some (.lst (((irange lo (hi - lo).toNat).filter f).map v)) → Q (.ref D) H') :
    tLc (iRng2 fun _ H2 R => R [.int lo, .int hi] H2) g tt te vs σ H Q := by
  have c1 : -(2 ^ 62) ≤ lo := by omega
  have c2 : lo < 2 ^ 62 := by omega
  have c3 : -(2 ^ 62) ≤ hi := by omega
  have c4 : hi < 2 ^ 62 := by omega
  exact ⟨lo, hi, rfl, ⟨c1, c2, c3, c4⟩, lcR_core (by omega) f v (fun k H' e h1 h2 => step k H' e h1 (by omega)) last⟩
theorem g_lcR1 {hi : Int} (b2 : hi ≤ 100000) (b3 : 0 ≤ hi) (f : Int → Bool) (v : Int → V)
    (step : ∀ k H', Ex H H' → 0 ≤ k → k < hi → LcT g tt te vs σ f v (.int k) k H')
    (last : ∀ D H', H D = none → Ex H H' → H' D = some (.lst (((irange 0 hi.toNat).filter f).map v)) → Q (.ref D) H') :
    tLc (iRng1 fun _ H2 R => R [.int hi] H2) g tt te vs σ H Q :=
  ⟨hi, rfl, by omega, by omega, lcR_core (by omega) f v (fun k H' e h1 h2 => step k H' e h1 (by omega)) last⟩
end
/-! ### a set of ints over a list of ints -/
section
variable {w : World} {K : PySem.W.Frag} {a : Addr} {ns : List Int} {g : TG} {tt : TT} {te : TE} {vs : List Nat} {σ : St} {H : Hp} {Q : VK}
/-- the members so far -/
def mem_ (f : Int → Bool) (v : Int → Int) (ns : List Int) (i : Nat) (k : Int) : Bool := (ns.take i).any fun h => f h && decide (k = v h)
def ScW (w : World) (H : Hp) (D : Addr) (f : Int → Bool) (v : Int → Int) (ns : List Int) (i : Nat) (H' : Hp) : Prop :=
  H D = none ∧ Ex H H' ∧ ∃ c, c ≤ i ∧ H' D = some (SetO w D (mem_ f v ns i) c)
def ScT (g : TG) (tt : TT) (te : TE) (vs : List Nat) (σ : St) (f : Int → Bool) (v : Int → Int) (x : V) (d : Int) (H' : Hp) : Prop :=
  ∀ (R : Hp → Prop) (S : VK), (f d = false → ∀ H3, Ex H' H3 → R H3) → (f d = true → ∀ H3, Ex H' H3 → S (.int (v d)) H3) →
    g x (wipe σ vs) H' fun σ2 H2 => wipe σ2 vs = wipe σ vs ∧ tt σ2 H2 fun b H3 => if b = true then te σ2 H3 S else R H3
theorem mem_next {f : Int → Bool} {v : Int → Int} {i : Nat} {d : Int} {r : List Int} (e : ns.drop i = d :: r) :
    mem_ f v ns (i + 1) = fun k => mem_ f v ns i k || (f d && decide (k = v d)) := by
  have h : ns[i]? = some d := by
    have q : (ns.drop i)[0]? = some d := by rw [e] <;> rfl
    rw [List.getElem?_drop] at q
    exact q
  funext k
  unfold mem_
  rw [List.take_add_one, h]
  show (List.take i ns ++ [d]).any _ = _
  rw [List.any_append]
  show (_ || ((f d && decide (k = v d)) || false)) = _
  rw [Bool.or_false]
def tScL (w : World) (K : PySem.W.Frag) (x : V) (g : TG) (tt : TT) (te : TE) (vs : List Nat) : TE := tScI w (iList K fun _ H1 R => R x H1) g tt te vs
theorem g_scList {tl : TE} (h : tl σ H fun x H1 => tScL w K x g tt te vs σ H1 Q) : tScI w (iList K tl) g tt te vs σ H Q := h
theorem g_scL (hx : SqL K H a (ns.map V.int)) (hz : ns.length ≤ 60) (f : Int → Bool) (v : Int → Int)
    (step : ∀ d H', Ex H H' → ScT g tt te vs σ f v (.int d) d H')
    (last : ∀ D H' c, H D = none → Ex H H' → c ≤ ns.length → H' D = some (SetO w D (mem_ f v ns ns.length) c) → Q (.ref D) H') :
    tScL w K (.ref a) g tt te vs σ H Q := by
  refine ⟨a, rfl, ⟨_, hx⟩, fun D hD => ?_⟩
  refine ⟨fun i m H' => m = ns.length - i ∧ i ≤ ns.length ∧ ScW w H D f v ns i H', ⟨ns.length, rfl, Nat.zero_le _, hD, Evl.Ex.new hD, 0, Nat.le_refl _, upd_same⟩, ?_⟩
  rintro i m H' ⟨rfl, hi, w1, w2, c, hc, w3⟩
  have q : SqL K H' a (ns.map V.int) := Evl.ex_l w2 hx
  by_cases lt : i < ns.length
  · have hi' : (ns.map V.int)[i]? = some (V.int ns[i]) := by
      rw [List.getElem?_map, List.getElem?_eq_getElem lt] <;> rfl
    have e : ns.drop i = ns[i] :: ns.drop (i + 1) := List.drop_eq_getElem_cons lt
    refine .inr ⟨⟨_, _, q, hi'⟩, ScW w H D f v ns (i + 1), fun G p => ⟨ns.length - (i + 1), by omega, rfl, lt, p⟩, fun x G y => ?_⟩
    obtain ⟨e1, y⟩ := y
    subst e1
    have ex := y _ q
    rw [hi'] at ex
    have ex := (Option.some.inj ex).symm
    subst ex
    have en := mem_next (f := f) (v := v) e
    refine step ns[i] G w2 _ _ (fun hf H3 e3 => ⟨w1, w2.trans e3, c, Nat.le_succ_of_le hc, ?_⟩) (fun hf H3 e3 => ⟨v ns[i], _, c, rfl, e3 D _ w3, ?_, w1, Evl.Ex.mut (w2.trans e3) w1, ?_⟩)
    · rw [e3 D _ w3, en, hf]
      congr 2
      funext k
      rw [Bool.false_and, Bool.or_false]
    · have hb : scanBound = scanBound := rfl
      exact Nat.lt_of_le_of_lt (show c + 1 ≤ 61 by omega) (by unfold scanBound; decide)
    · refine ⟨_, ?_, by rw [upd_same, en, hf]; simp only [Bool.true_and]; rfl⟩
      split <;> omega
  · have e : i = ns.length := by omega
    subst e
    exact .inl ⟨⟨_, q, by rw [List.length_map]; exact Nat.le_refl _⟩, last D H' c w1 w2 hc w3⟩
end
section
variable {K : PySem.W.Frag} {H H' : Hp}
theorem dpAll_pd : ∀ {vs : List V} {ds : List PyData}, DpAll K H vs ds → Paired (Dp K H) vs ds
  | _, _, .nil => .nil
  | _, _, .cons h t => .cons h (dpAll_pd t)
theorem pd_dpAll : ∀ {vs : List V} {ds : List PyData}, Paired (Dp K H) vs ds → DpAll K H vs ds
  | _, _, .nil => .nil
  | _, _, .cons h t => .cons h (pd_dpAll t)
mutual
theorem dp_tr (e : TrT K H H') (l : TrL K H H') : ∀ (d : PyData) (v : V), Dp K H v d → Dp K H' v d
  | .none, _, h => by cases h; exact .non
  | .bool b, _, h => by cases h; exact .bl b
  | .int b, _, h => by cases h; exact .int b
  | .str b, _, h => by cases h; exact .str b
  | .list ds, _, h => by
    cases h with
    | lst h1 h2 => exact .lst (l _ _ h1) (dpAll_tr e l ds _ h2)
  | .tuple ds, _, h => by
    cases h with
    | tup h1 h2 => exact .tup (e _ _ h1) (dpAll_tr e l ds _ h2)
  | .dict _, _, h => by cases h
theorem dpAll_tr (e : TrT K H H') (l : TrL K H H') : ∀ (ds : List PyData) (vs : List V), DpAll K H vs ds → DpAll K H' vs ds
  | [], _, h => by cases h; exact .nil
  | d :: ds, _, h => by
    cases h with
    | cons h1 h2 => exact .cons (dp_tr e l d _ h1) (dpAll_tr e l ds _ h2)
end
theorem dp_ex (e : Ex H H') {d : PyData} {v : V} (h : Dp K H v d) : Dp K H' v d := dp_tr (TrT.of e) (TrL.of e) d v h
/-- data of tuples, at most n deep -/
def fits : Nat → PyData → Bool
  | _, .none => true
  | _, .bool _ => true
  | _, .int _ => true
  | _, .str _ => true
  | n + 1, .tuple xs => decide (xs.length ≤ 1000) && xs.all (fits n)
  | _, _ => false
theorem fits_tuple {n : Nat} {xs : List PyData} : fits (n + 1) (.tuple xs) = (decide (xs.length ≤ 1000) && xs.all (fits n)) := rfl
theorem dp_trT (e : TrT K H H') : ∀ (n : Nat) (d : PyData) (v : V), fits n d = true → Dp K H v d → Dp K H' v d := by
  intro n
  induction n with
  | zero =>
    intro d v f h
    cases h with
    | non => exact .non
    | bl b => exact .bl b
    | int b => exact .int b
    | str b => exact .str b
    | lst h1 h2 => cases f
    | tup h1 h2 => cases f
  | succ n ih =>
    intro d v f h
    cases h with
    | non => exact .non
    | bl b => exact .bl b
    | int b => exact .int b
    | str b => exact .str b
    | lst h1 h2 => cases f
    | @tup a xs ds h1 h2 =>
      refine .tup (e _ _ h1) (pd_dpAll ?_)
      have f' : ∀ x ∈ ds, fits n x = true := List.all_eq_true.mp (Bool.and_eq_true_iff.mp (show (decide (ds.length ≤ 1000) && ds.all (fits n)) = true from f)).2
      have p := dpAll_pd h2
      clear h1 h2 f
      induction p with
      | nil => exact .nil
      | @cons x d xs ds q t ih2 => exact .cons (ih d x (f' d (by simp)) q) (ih2 fun z hz => f' z (by simp [hz]))
theorem pd_map {α β γ : Type} {F : α → β → Prop} {G : α → γ → Prop} {f : β → γ} (h : ∀ a b, F a b → G a (f b)) : ∀ {xs : List α} {ys : List β}, Paired F xs ys → Paired G xs (ys.map f)
  | _, _, .nil => .nil
  | _, _, .cons q t => .cons (h _ _ q) (pd_map h t)
theorem pd_maps {α β γ : Type} {F : α → β → Prop} {f : γ → α} {g : γ → β} : ∀ (zs : List γ), (∀ z ∈ zs, F (f z) (g z)) → Paired F (zs.map f) (zs.map g)
  | [], _ => .nil
  | z :: zs, h => .cons (h z (by simp)) (pd_maps zs fun y hy => h y (by simp [hy]))
theorem dp_ints (ns : List Int) : DpAll K H (ns.map V.int) (ns.map PyData.int) := pd_dpAll (pd_maps ns fun z _ => .int z)
theorem dp_pair {v : V} {p : Int × Int} (h : PV K H v p) : Dp K H v (.tuple [.int p.1, .int p.2]) := by
  obtain ⟨a, rfl, h⟩ := h
  exact .tup h (.cons (.int _) (.cons (.int _) .nil))
/-! ### shapes -/
def sh (n : Nat) (d : PyData) : Prop := d.canLay0 = true ∧ d.depth ≤ n
theorem sh_all {n : Nat} : ∀ {ds : List PyData}, (∀ x ∈ ds, sh n x) → PyData.canLayAll0 ds = true ∧ PyData.depthAll ds ≤ n
  | [], _ => by simp [PyData.canLayAll0, PyData.depthAll]
  | d :: ds, h => by
    have h1 := h d (by simp)
    have h2 := sh_all (ds := ds) fun x hx => h x (by simp [hx])
    unfold PyData.canLayAll0 PyData.depthAll
    exact ⟨by rw [h1.1, h2.1] <;> rfl, by have := h1.2; have := h2.2; omega⟩
theorem sh_list {n : Nat} {ds : List PyData} (h : ∀ x ∈ ds, sh n x) : sh (n + 1) (.list ds) := by
  have q := sh_all h
  unfold sh PyData.canLay0 PyData.depth
  exact ⟨q.1, by have := q.2; omega⟩
theorem sh_tup {n : Nat} {ds : List PyData} (h : ∀ x ∈ ds, sh n x) : sh (n + 1) (.tuple ds) := by
  have q := sh_all h
  unfold sh PyData.canLay0 PyData.depth
  exact ⟨q.1, by have := q.2; omega⟩
theorem sh_int {n : Nat} {i : Int} : sh n (.int i) := by unfold sh PyData.canLay0 PyData.depth; exact ⟨rfl, Nat.zero_le _⟩
theorem sh_ints {n : Nat} {ns : List Int} : ∀ x ∈ ns.map PyData.int, sh n x := by
  intro x hx
  obtain ⟨i, _, rfl⟩ := List.mem_map.mp hx
  exact sh_int
theorem sh_ok {n : Nat} {d : PyData} (h : sh n d) (l : n ≤ 64) : SeqAt.shaped d = true := by
  unfold SeqAt.shaped
  rw [h.1, decide_eq_true (Nat.le_trans h.2 l)] <;> rfl
theorem eqvAll_nil (ds : List PyData) : PyData.eqvAll ds [] = ds.isEmpty := by
  cases ds with
  | nil => unfold PyData.eqvAll; rfl
  | cons d ds => unfold PyData.eqvAll; rfl
section
variable {Q : VK} {a b : Addr} {ns : List Int}
/-- xs != [] -/
theorem g_neNil (h1 : H a = some (.lst (ns.map V.int))) (h2 : H b = some (.lst [])) (k : Q (.bl (!ns.isEmpty)) H) : rNeD K (.ref a) (.ref b) H Q := by
  refine ⟨.list (ns.map PyData.int), .list [], .lst (SqL.of h1) (dp_ints ns), .lst (SqL.of h2) .nil, sh_ok (n := 1) (sh_list sh_ints) (by omega), sh_ok (n := 1) (sh_list (by simp)) (by omega), ?_⟩
  have e : PyData.eqv (.list (ns.map PyData.int)) (.list []) = ns.isEmpty := by
    show PyData.eqvAll (ns.map PyData.int) [] = ns.isEmpty
    rw [eqvAll_nil]
    cases ns <;> rfl
  rw [e]
  exact k
theorem g_eqNil (h1 : H a = some (.lst (ns.map V.int))) (h2 : H b = some (.lst [])) (k : Q (.bl ns.isEmpty) H) : rEqD K (.ref a) (.ref b) H Q := by
  refine ⟨.list (ns.map PyData.int), .list [], .lst (SqL.of h1) (dp_ints ns), .lst (SqL.of h2) .nil, sh_ok (n := 1) (sh_list sh_ints) (by omega), sh_ok (n := 1) (sh_list (by simp)) (by omega), ?_⟩
  have e : PyData.eqv (.list (ns.map PyData.int)) (.list []) = ns.isEmpty := by
    show PyData.eqvAll (ns.map PyData.int) [] = ns.isEmpty
    rw [eqvAll_nil]
    cases ns <;> rfl
  rw [e]
  exact k
end
end
theorem sh_bool {n : Nat} {i : Bool} : sh n (.bool i) := by unfold sh PyData.canLay0 PyData.depth; exact ⟨rfl, Nat.zero_le _⟩
theorem sh_none {n : Nat} : sh n .none := by unfold sh PyData.canLay0 PyData.depth; exact ⟨rfl, Nat.zero_le _⟩
theorem sh_str {n : Nat} {s : Str} (h : PyData.strOk s = true) : sh n (.str s) := by unfold sh PyData.canLay0 PyData.depth; exact ⟨h, Nat.zero_le _⟩
/-! ### a pair or a word -/
abbrev Tm := Int × Int
def encT : Option Tm → PyData
  | none => .str "refused"
  | some t => .tuple [.int t.1, .int t.2]
def TV (K : PySem.W.Frag) (H : Hp) (v : V) : Option Tm → Prop
  | none => v = .str "refused"
  | some t => PV K H v t
section
variable {K : PySem.W.Frag} {H H' : Hp} {v : V}
theorem TV.tr {o : Option Tm} (e : TrT K H H') (h : TV K H v o) : TV K H' v o := by
  cases o with
  | none => exact h
  | some t => exact PV.tr e h
theorem TV.dp {o : Option Tm} (h : TV K H v o) : Dp K H v (encT o) := by
  cases o with
  | none => cases (show v = .str "refused" from h); exact .str _
  | some t => exact dp_pair h
theorem sh_refused {n : Nat} : sh n (.str "refused") := sh_str (by decide +kernel)
theorem sh_encT {o : Option Tm} : sh 1 (encT o) := by
  cases o with
  | none => exact sh_refused
  | some t =>
    refine sh_tup fun x hx => ?_
    simp only [List.mem_cons, List.not_mem_nil, or_false] at hx
    rcases hx with rfl | rfl <;> exact sh_int
theorem eqv_tup {a b : Tm} : PyData.eqv (encT (some a)) (encT (some b)) = decide (a = b) := by
  show PyData.eqvAll [.int a.1, .int a.2] [.int b.1, .int b.2] = _
  unfold PyData.eqvAll PyData.eqvAll PyData.eqvAll PyData.eqv
  simp only [Bool.and_true]
  rw [show (a.1 == b.1) = decide (a.1 = b.1) from rfl, show (a.2 == b.2) = decide (a.2 = b.2) from rfl, ← Bool.decide_and]
  exact decide_eq_decide.mpr ⟨fun h => Prod.ext h.1 h.2, fun h => by rw [h]; exact ⟨rfl, rfl⟩⟩
theorem eqv_enc {a b : Option Tm} : PyData.eqv (encT a) (encT b) = decide (a = b) := by
  cases a with
  | none => cases b with
    | none => decide +kernel
    | some b => rfl
  | some a => cases b with
    | none => rfl
    | some b => rw [eqv_tup]; exact decide_eq_decide.mpr ⟨fun h => by rw [h], fun h => Option.some.inj h⟩
section
variable {Q : VK} {x y : V} {a b : Option Tm}
theorem g_eqT (h1 : TV K H x a) (h2 : TV K H y b) (k : Q (.bl (decide (a = b))) H) : rEqD K x y H Q :=
  ⟨_, _, h1.dp, h2.dp, sh_ok sh_encT (by omega), sh_ok sh_encT (by omega), by rw [eqv_enc]; exact k⟩
theorem g_neT (h1 : TV K H x a) (h2 : TV K H y b) (k : Q (.bl (!decide (a = b))) H) : rNeD K x y H Q :=
  ⟨_, _, h1.dp, h2.dp, sh_ok sh_encT (by omega), sh_ok sh_encT (by omega), by rw [eqv_enc]; exact k⟩
/-- "refused" in [x, y] -/
theorem g_inT {l : Addr} (h0 : H l = some (.lst [x, y])) (h1 : TV K H x a) (h2 : TV K H y b) (k : Q (.bl (decide (a = none) || decide (b = none))) H) : rInD K (.str "refused") (.ref l) H Q := by
  refine ⟨.str "refused", [encT a, encT b], .str _, .lst (SqL.of h0) (.cons h1.dp (.cons h2.dp .nil)), sh_ok (n := 1) sh_refused (by omega), sh_ok (n := 2) (sh_list ?_) (by omega), ?_⟩
  · intro z hz
    simp only [List.mem_cons, List.not_mem_nil, or_false] at hz
    rcases hz with rfl | rfl <;> exact sh_encT
  · show Q (.bl (PyData.eqv (encT a) (encT none) || (PyData.eqv (encT b) (encT none) || false))) H
    rw [eqv_enc, eqv_enc, Bool.or_false]
    exact k
end
end
/-! ### rising lists -/
theorem rise_ext : ∀ {xs ys : List Int}, xs.Pairwise (· < ·) → ys.Pairwise (· < ·) → (∀ k, k ∈ xs ↔ k ∈ ys) → xs = ys
  | [], [], _, _, _ => rfl
  | [], y :: ys, _, _, h => absurd ((h y).2 (by simp)) (by simp)
  | x :: xs, [], _, _, h => absurd ((h x).1 (by simp)) (by simp)
  | x :: xs, y :: ys, hx, hy, h => by
    rw [List.pairwise_cons] at hx hy
    have e : x = y := by
      have h1 := (h x).1 (by simp)
      have h2 := (h y).2 (by simp)
      rw [List.mem_cons] at h1 h2
      rcases h1 with h1 | h1
      · exact h1
      · rcases h2 with h2 | h2
        · exact h2.symm
        · have := hx.1 y h2
          have := hy.1 x h1
          omega
    subst e
    rw [rise_ext hx.2 hy.2 fun k => ?_]
    constructor
    · intro hk
      have q := (h k).1 (by simp [hk])
      rw [List.mem_cons] at q
      rcases q with q | q
      · have := hx.1 k hk
        omega
      · exact q
    · intro hk
      have q := (h k).2 (by simp [hk])
      rw [List.mem_cons] at q
      rcases q with q | q
      · have := hy.1 k hk
        omega
      · exact q
theorem irange_mem {lo : Int} {n : Nat} {k : Int} : k ∈ irange lo n ↔ lo ≤ k ∧ k < lo + n := by
  unfold irange
  rw [List.mem_map]
  constructor
  · rintro ⟨i, hi, rfl⟩
    rw [List.mem_range] at hi
    omega
  · rintro ⟨h1, h2⟩
    exact ⟨(k - lo).toNat, by rw [List.mem_range]; omega, by omega⟩
theorem irange_rise (lo : Int) (n : Nat) : (irange lo n).Pairwise (· < ·) := by
  unfold irange
  rw [List.pairwise_map]
  exact List.pairwise_lt_range.imp fun h => by omega
section
variable {σ : St} {H : Hp}
/-- an expression that gives v and leaves the heap as it is -/
def EvV (te : TE) (σ : St) (H : Hp) (v : V) : Prop := ∀ Q : VK, Q v H → te σ H Q
def EvK (tt : TT) (σ : St) (H : Hp) (b : Bool) : Prop := ∀ R : Bool → Hp → Prop, R b H → tt σ H R
variable {ta tb : TE} {tt : TT} {v : V} {a b c : Bool} {x y : Str} {i j : Int}
theorem evV_var {k : Nat} (e : σ[k]? = some (some v)) : EvV (tVar k) σ H v := fun Q q => ⟨v, e, q⟩
theorem evV_c : EvV (tC v) σ H v := fun Q q => q
theorem evV_not (h : EvV ta σ H (.bl a)) : EvV (tNotV ta) σ H (.bl (!a)) := fun Q q => h _ ⟨a, rfl, q⟩
theorem evV_or (h : EvV ta σ H (.bl a)) (h' : EvV tb σ H (.bl b)) : EvV (tOrV ta tb) σ H (.bl (a || b)) := fun Q q => h _ ⟨a, rfl, by
  cases a with
  | true => exact q
  | false => exact h' _ q⟩
theorem evV_and (h : EvV ta σ H (.bl a)) (h' : EvV tb σ H (.bl b)) : EvV (tAndV ta tb) σ H (.bl (a && b)) := fun Q q => h _ ⟨a, rfl, by
  cases a with
  | true => exact h' _ q
  | false => exact q⟩
theorem evK_B (h : EvV ta σ H (.bl a)) : EvK (tB ta) σ H a := fun R r => h _ ⟨a, rfl, r⟩
theorem evK_test (h : EvV ta σ H (.bl a)) : EvK (tTest ta) σ H a := fun R r => h _ ⟨a, rfl, r⟩
theorem evK_not (h : EvK tt σ H a) : EvK (tNot tt) σ H (!a) := fun R r => h _ r
theorem evV_if (h : EvK tt σ H c) (h1 : EvV ta σ H (.bl a)) (h2 : EvV tb σ H (.bl b)) : EvV (tIf tt ta tb) σ H (.bl (if c = true then a else b)) := fun Q q => h _ (by
  cases c with
  | true => exact if_t rfl (h1 _ q)
  | false => exact if_f rfl (h2 _ q))
theorem evV_eqB (h : EvV ta σ H (.bl a)) (h' : EvV tb σ H (.bl b)) : EvV (tOp rEq ta tb) σ H (.bl (a == b)) := fun Q q => h _ (h' _ (g_eqB q))
theorem evV_eqS (h : EvV ta σ H (.str x)) (h' : EvV tb σ H (.str y)) : EvV (tOp rEq ta tb) σ H (.bl (decide (x = y))) := fun Q q => h _ (h' _ (g_eqS q))
theorem evV_neS (h : EvV ta σ H (.str x)) (h' : EvV tb σ H (.str y)) : EvV (tOp rNe ta tb) σ H (.bl (!decide (x = y))) := fun Q q => h _ (h' _ (g_neS q))
theorem evV_is {v' : V} (h : EvV ta σ H v) (e : v = v') : EvV ta σ H v' := e ▸ h
theorem g_ev {Q : VK} (h : EvV ta σ H v) (q : Q v H) : ta σ H Q := h Q q
/-- a new pair of truth values -/
theorem g_pairB {Q : VK} (h1 : EvV ta σ H (.bl a)) (h2 : EvV tb σ H (.bl b)) (k : ∀ p H', H p = none → Ex H H' → H' p = some (.tup [.bl a, .bl b]) → Q (.ref p) H') : tTup (tCons ta (tCons tb tNil)) σ H Q :=
  h1 _ (h2 _ (g_newT (by simp) k))
end
section
variable {K : PySem.W.Frag} {H H' H0 : Hp} {D : Addr}
theorem TrT.frD {kvs : List (Key × V)} (hr : H D = some (.dK kvs)) (e : Fr D H H') : TrT K H H' := by
  intro a ys h
  have ne : ∀ o, H a = some o → (∀ zs, o ≠ .dK zs) → a ≠ D := fun o q n z => by
    subst z
    rw [hr] at q
    exact n kvs (Option.some.inj q).symm
  rcases h with (h | ⟨o, h⟩) | h
  · exact .inl (.inl (e a _ (ne _ h fun _ z => nomatch z) h))
  · exact .inl (.inr ⟨o, e a _ (ne _ h fun _ z => nomatch z) h⟩)
  · exact .inr h
theorem ex_fr (e : Ex H0 H) (n : H0 D = none) (f : Fr D H H') : Ex H0 H' := fun a o h => f a o (ne_of_none h n) (e a o h)
/-- a pair of truth values -/
def BP (K : PySem.W.Frag) (H : Hp) (v : V) (p : Bool × Bool) : Prop := ∃ a, v = .ref a ∧ SqT K H a [.bl p.1, .bl p.2]
theorem BP.tr {v : V} {p : Bool × Bool} (e : TrT K H H') (h : BP K H v p) : BP K H' v p := by
  obtain ⟨a, q, h⟩ := h
  exact ⟨a, q, e _ _ h⟩
/-- a dict of names and what they stand for -/
def DictAt (K : PySem.W.Frag) {α : Type} (nm : α → Str) (F : Hp → V → α → Prop) (H : Hp) (D : Addr) (rs : List α) : Prop :=
  ∃ kvs : List (Key × V), H D = some (.dK kvs) ∧ Paired (fun (kv : Key × V) r => kv.1 = (Sum.inr (nm r) : Key) ∧ F H kv.2 r) kvs rs
section
variable {α : Type} {nm : α → Str} {F : Hp → V → α → Prop}
theorem any_none {kvs : List (Key × V)} {rs : List α} {k : Str} {P : V → α → Prop} (h : Paired (fun (kv : Key × V) r => kv.1 = (Sum.inr (nm r) : Key) ∧ P kv.2 r) kvs rs) (n : ∀ r ∈ rs, nm r ≠ k) :
    (kvs.any fun kv => decide (kv.1 = (Sum.inr k : Key))) = false := by
  induction h with
  | nil => rfl
  | @cons kv r kvs rs q t ih =>
    rw [List.any_cons, ih fun x hx => n x (by simp [hx]), Bool.or_false, q.1]
    exact decide_eq_false fun e => n r (by simp) (Sum.inr.inj e)
theorem DictAt.put {rs : List α} {r : α} {v : V} {R : Hp → Prop} (h : DictAt K nm F H D rs) (mono : ∀ H' v r, TrT K H H' → F H v r → F H' v r) (n : ∀ x ∈ rs, nm x ≠ nm r) (few : rs.length < 1000) (hv : F H v r)
    (k : ∀ H', Fr D H H' → DictAt K nm F H' D (rs ++ [r]) → R H') : rSetD (.ref D) (.str (nm r)) v H R := by
  obtain ⟨kvs, hD, hp⟩ := h
  have len := Paired.length hp
  have e : putK kvs (Sum.inr (nm r) : Key) v = kvs ++ [((Sum.inr (nm r) : Key), v)] := by
    unfold putK
    rw [any_none (P := F H) hp n, if_neg (by decide)]
  have tr : TrT K H (L2.upd H D (.dK (kvs ++ [((Sum.inr (nm r) : Key), v)]))) := TrT.frD hD Fr.upd
  refine ⟨D, _, rfl, DPut.k (k := (Sum.inr (nm r) : Key)) hD (by rw [len]; exact Nat.lt_of_lt_of_le few (by decide)), ?_⟩
  rw [e]
  refine k _ Fr.upd ⟨_, upd_same, pd_app (L2.Paired.mapP hp fun _ _ q => ⟨q.1, mono _ _ _ tr q.2⟩) (.cons ⟨rfl, mono _ _ _ tr hv⟩ .nil)⟩
theorem DictAt.trT {rs : List α} (h : DictAt K nm F H D rs) (f : Fr D H H') : TrT K H H' := by
  obtain ⟨kvs, hD, _⟩ := h
  exact TrT.frD hD f
theorem DictAt.get {rs : List α} {r : α} (h : DictAt K nm F H D rs) (inj : ∀ x ∈ rs, nm x = nm r → x = r) (m : r ∈ rs) : ∃ v, DGet H D (.str (nm r)) (some v) ∧ F H v r := by
  obtain ⟨kvs, hD, hp⟩ := h
  have q : ∃ v, valV kvs (Sum.inr (nm r) : Key) = some v ∧ F H v r := by
    clear hD
    induction hp with
    | nil => cases m
    | @cons kv x kvs rs q t ih =>
      by_cases c : nm x = nm r
      · have e := inj x (by simp) c
        subst e
        exact ⟨kv.2, valV_pos q.1, q.2⟩
      · rw [valV_neg (by rw [q.1]; exact fun e => c (Sum.inr.inj e))]
        rcases List.mem_cons.mp m with e | m
        · exact (c (by rw [e])).elim
        · exact ih (fun y hy => inj y (by simp [hy])) m
  obtain ⟨v, e, f⟩ := q
  exact ⟨v, by rw [← e]; exact DGet.k (k := (Sum.inr (nm r) : Key)) hD, f⟩
theorem DictAt.tr {rs : List α} (h : DictAt K nm F H D rs) (e : Ex H H') (mono : ∀ H' v r, TrT K H H' → F H v r → F H' v r) : DictAt K nm F H' D rs := by
  obtain ⟨kvs, hD, hp⟩ := h
  exact ⟨kvs, e _ _ hD, L2.Paired.mapP hp fun _ _ q => ⟨q.1, mono _ _ _ (TrT.of e) q.2⟩⟩
end
theorem g_inL {Q : VK} {a : Addr} {xs : List V} {x : V} (q : SqL K H a xs) (f1 : flatV x = true) (f2 : xs.all flatV = true) (k : Q (.bl (inV x xs)) H) : rIn K false x (.ref a) H Q := ⟨a, xs, rfl, .inl q, f1, f2, k⟩
theorem g_inTu {Q : VK} {a : Addr} {xs : List V} {x : V} (q : SqT K H a xs) (f1 : flatV x = true) (f2 : xs.all flatV = true) (k : Q (.bl (inV x xs)) H) : rIn K false x (.ref a) H Q := ⟨a, xs, rfl, .inr q, f1, f2, k⟩
theorem inV_strs (x : Str) : ∀ xs : List Str, inV (.str x) (xs.map V.str) = xs.any fun y => decide (y = x)
  | [] => rfl
  | y :: ys => by
    show (eqV (.str y) (.str x) || inV (.str x) (ys.map V.str)) = (decide (y = x) || ys.any fun y => decide (y = x))
    rw [inV_strs x ys]
    rfl
end
section
open He
/-- the object that the key x stands for in the table at a -/
def dctAt (a : PySem.W.Frag → Addr) (x : Str) (K : PySem.W.Frag) : Addr := match PySem.W.nsIn K (a K) x with
  | some (some (.ref b)) => b
  | _ => 0
def gaF (x : Str) (K : PySem.W.Frag) : Addr := ga K x
/-- a tuple found by a path -/
def tupD (a : PySem.W.Frag → Addr) (vs : List Dv) (K : PySem.W.Frag) : Bool := match K.lookup (a K) with
  | some ⟨.type c, _, .seq its _, _⟩ => decide (c = "tuple") && (decide (its.size ≤ sizeLine) && relAll (vs.map (Dv.v K)) its.toList)
  | _ => false
theorem tupD_ok {K : PySem.W.Frag} {a : PySem.W.Frag → Addr} {vs : List Dv} (h : tupD a vs K = true) (H : Hp) : SqT K H (a K) (vs.map (Dv.v K)) := by
  unfold tupD at h
  split at h
  next c od its n sl q =>
    obtain ⟨h1, h2⟩ := ba h
    obtain ⟨h3, h4⟩ := ba h2
    exact .inr ⟨_, its, n, q, by rw [of_decide_eq_true h1], rfl, of_decide_eq_true h3, relAll_ok h4⟩
  next => cases h
def valsD (a : PySem.W.Frag → Addr) (kvs : List (Str × Dv)) (K : PySem.W.Frag) : Bool := valsB K (a K) kvs
theorem kdct_of {K : PySem.W.Frag} {w : World} {a : PySem.W.Frag → Addr} {kvs : List (Str × Dv)} (d : ∃ es n, KDict K w (a K) es n) (h : valsD a kvs K = true) {q : Str × Dv} (hq : q ∈ kvs) : KDct K w (a K) q.1 (q.2.v K) := by
  obtain ⟨es, n, d⟩ := d
  obtain ⟨u, e, r⟩ := valsB_ok h hq
  exact ⟨es, n, u, d.1, d.2, e, r⟩
/-- a table's key's object stands where the path says -/
def adrB (a : PySem.W.Frag → Addr) (x : Str) (K : PySem.W.Frag) : Bool := eqO (PySem.W.nsIn K (a K) x) (some (some (.ref (dctAt a x K))))
abbrev AlX : Type := AlT × Bool
def obsX (fa : List Fa) (fn : List DefD) (ts : List Tab) (ps : List (PySem.W.Frag → Bool)) (K : PySem.W.Frag) : AlX := (obsT fa fn ts K, ps.all fun p => p K)
def valX (fn : List DefD) (ts : List Tab) (w : World) : AlX := (valT fn ts w, true)
def obsXG (n : Nat) (fa : List Fa) (fn : List DefD) (ts : List Tab) (ps : List (PySem.W.Frag → Bool)) (g : Addr → Option Obj) : AlX := obsX fa fn ts ps (frG g (asD g n))
def SaysX (fa : List Fa) (fn : List DefD) (ts : List Tab) (ps : List (PySem.W.Frag → Bool)) (w : World) (K : PySem.W.Frag) : Prop := obsX fa fn ts ps K = valX fn ts w
def hookX (n : Nat) (fa : List Fa) (fn : List DefD) (ts : List Tab) (ps : List (PySem.W.Frag → Bool)) : PySem.W.Hook where
  α := AlX
  obs := fun s => obsXG n fa fn ts ps s.heap.get?
  val := fun w => valX fn ts w
  says := fun w h => ∃ K : PySem.W.Frag, K.In h ∧ SaysX fa fn ts ps w K
  of := fun _ _ e => ⟨_, frG_in, e⟩
  keeps := fun _ _ _ ⟨K, hK, c⟩ k => ⟨K, PySem.W.Frag.In.keeps hK k, c⟩
theorem obsXG_eq {n : Nat} {fa : List Fa} {fn : List DefD} {ts : List Tab} {ps : List (PySem.W.Frag → Bool)} {g : Addr → Option Obj} {s : Shared} (h : ∀ a, g a = s.heap.get? a) : obsXG n fa fn ts ps g = (hookX n fa fn ts ps).obs s := by
  have e : g = s.heap.get? := funext h
  rw [e] <;> rfl
section
variable {fa : List Fa} {fn : List DefD} {ts : List Tab} {ps : List (PySem.W.Frag → Bool)} {w : World} {K : PySem.W.Frag}
theorem SaysX.t (c : SaysX fa fn ts ps w K) : SaysT fa fn ts w K := congrArg (fun z : AlX => z.1) c
theorem SaysX.p (c : SaysX fa fn ts ps w K) (i : Nat) {p : PySem.W.Frag → Bool} (h : ps[i]? = some p := by rfl) : p K = true :=
  List.all_eq_true.mp (congrArg (fun z : AlX => z.2) c) p (List.mem_of_getElem? h)
end
end
/-! ### match over texts -/
def isOne (z : Str) (ps : List Str) : Bool := ps.any fun p => decide (z = p)
structure PPat (X : Cx) (p : Pattern) (ps : List Str) : Prop where
  run : ∀ (pins : List (Addr × Obj)) (s : Shared) (σ : St) (H : Hp) (z : Str) (t : Tok) (Q : Option (List (Str × Value)) → Shared → Prop), Inv X pins σ H s →
    (∀ s', Inv X pins σ H s' → Q (if isOne z ps = true then some [] else none) s') → wpAny (model X.prog X.w) X.A (matchPattern p X.env (.str z t)) Q X.xe s
structure POr (X : Cx) (p : List Pattern) (ps : List Str) : Prop where
  run : ∀ (pins : List (Addr × Obj)) (s : Shared) (σ : St) (H : Hp) (z : Str) (t : Tok) (Q : Option (List (Str × Value)) → Shared → Prop), Inv X pins σ H s →
    (∀ s', Inv X pins σ H s' → Q (if isOne z ps = true then some [] else none) s') → wpAny (model X.prog X.w) X.A (matchFirst p X.env (.str z t)) Q X.xe s
def tCases : List (List Str × TS) → Str → TS
  | [], _ => fun D σ H => D.nx σ H
  | c :: r, z => fun D σ H => if isOne z c.1 = true then c.2 D σ H else tCases r z D σ H
structure PCs (X : Cx) (cs : List MatchCase) (tcs : List (List Str × TS)) : Prop where
  run : ∀ (pins : List (Addr × Obj)) (s : Shared) (σ : St) (H : Hp) (D : Ends) (z : Str) (t : Tok) (first : Bool), Inv X pins σ H s → tCases tcs z D σ H →
    wpAny (model X.prog X.w) X.A (matchCases cs X.env (.str z t) first) (SP X pins D) X.xe s
def tMatch (te : TE) (tcs : List (List Str × TS)) : TS := fun D σ H => te σ H fun x H1 => ∃ z, x = .str z ∧ tCases tcs z D σ H1
section
variable {X : Cx} {pos pos' : Pos}
theorem pat_str {x : Str} {j : Nat} : PPat X (.MatchValue (.Constant (.str x) j pos) pos') [x] := by
  refine ⟨fun pins s σ H z t Q I h => ?_⟩
  refine wpAny_matchPattern_Value (thn (pe_str.run pins s σ H (fun v H1 => v = .str x ∧ H1 = H) I ⟨rfl, rfl⟩) fun v s1 ⟨y, H1, I1, r1, e1, e2⟩ => ?_)
  subst e1 e2
  refine thn (op_eq pins s1 σ _ (.str z) (.str x) _ _ (fun c H2 => c = .bl (decide (V.str z = V.str x)) ∧ H2 = _) I1 ⟨t, rfl⟩ r1 ⟨rfl, rfl, rfl⟩) fun c s2 ⟨y, H2, I2, r2, e1, e2⟩ => ?_
  subst e1 e2
  cases r2
  refine wpAny_truthy_bool ?_
  have q := h s2 I2
  have e : isOne z [x] = decide (V.str z = V.str x) := by
    unfold isOne
    rw [List.any_cons, List.any_nil, Bool.or_false]
    exact decide_eq_decide.mpr ⟨fun e => by rw [e], fun e => V.str.inj e⟩
  rw [e] at q
  cases c : decide (V.str z = V.str x) with
  | true => rw [c] at q; exact q
  | false => rw [c] at q; exact q
theorem por_nil : POr X [] [] := ⟨fun pins s σ H z t Q I h => wpAny_matchFirst_nil (h s I)⟩
theorem por_cons {p : Pattern} {ps : List Pattern} {xs ys : List Str} (hp : PPat X p xs) (hr : POr X ps ys) : POr X (p :: ps) (xs ++ ys) := by
  refine ⟨fun pins s σ H z t Q I h => ?_⟩
  refine wpAny_matchFirst_cons (hp.run pins s σ H z t _ I fun s1 I1 => ?_)
  have e : isOne z (xs ++ ys) = (isOne z xs || isOne z ys) := List.any_append
  rw [e] at h
  cases c : isOne z xs with
  | true =>
    rw [c] at h
    exact h s1 I1
  | false =>
    rw [c] at h
    exact hr.run pins s1 σ H z t Q I1 fun s2 I2 => h s2 I2
theorem pat_or {ps : List Pattern} {zs : List Str} (h : POr X ps zs) (hn : namesOfAll (ps.take 1) = [] := by rfl) : PPat X (.MatchOr ps pos) zs := by
  refine ⟨fun pins s σ H z t Q I hq => ?_⟩
  refine wpAny_matchPattern_Or (h.run pins s σ H z t _ I fun s1 I1 => ?_)
  have q := hq s1 I1
  cases c : isOne z zs with
  | true =>
    rw [c] at q
    show Q (some ((namesOfAll (ps.take 1)).filterMap _)) s1
    rw [hn]
    exact q
  | false =>
    rw [c] at q
    exact q
theorem pcs_nil : PCs X [] [] := ⟨fun _ _ σ H _ _ _ _ I h => wpAny_matchCases_nil ⟨σ, H, I, h⟩⟩
theorem pcs_cons {p : Pattern} {ps : List Str} {body : List Stmt} {t : TS} {rest : List MatchCase} {tcs : List (List Str × TS)} (hp : PPat X p ps) (hb : PSs X body t) (hr : PCs X rest tcs) : PCs X (⟨p, none, body⟩ :: rest) ((ps, t) :: tcs) := by
  refine ⟨fun pins s σ H D z tk first I h => ?_⟩
  refine wpAny_matchCases_cons (hp.run pins s σ H z tk _ I fun s1 I1 => ?_)
  have h : if isOne z ps = true then t D σ H else tCases tcs z D σ H := h
  cases c : isOne z ps with
  | true =>
    rw [c] at h
    exact wpAny_assignInOrder_none (hb.run pins s1 σ H D I1 h)
  | false =>
    rw [c] at h
    exact hr.run pins s1 σ H D z tk false I1 h
theorem ps_match {e : Expr} {te : TE} {cs : List MatchCase} {tcs : List (List Str × TS)} (he : PE X e te) (hc : PCs X cs tcs) : PS X (.Match e cs pos) (tMatch te tcs) := by
  refine ⟨fun pins s σ H D I h => ?_⟩
  refine wpAny_Match (thn (he.run pins s σ H _ I h) fun v s1 ⟨x, H1, I1, r1, z, e1, q⟩ => ?_)
  subst e1
  obtain ⟨t, rfl⟩ := r1
  exact hc.run pins s1 σ H1 D z t true I1 q
/-! ### the truth of a list or tuple -/
def tTru (K : PySem.W.Frag) (ta : TE) : TT := fun σ H Q => ta σ H fun x H' => ∃ k, TruV K x H' k ∧ Q k H'
theorem pt_tru {a : Expr} {ta : TE} (ha : PE X a ta) (he : ∀ whole, isTrue a X.env whole = (do let v ← whole; standAt a.pos; holding [v] (truthy v)) := by intro _; rfl) : PT X a (tTru X.K ta) := pt_truth ha he
end
section
variable {σ : St} {H : Hp} {n : St → Hp → Prop} {r : VK} {b c : St → Hp → Prop} {Q : VK} {z : Str} {D : Ends}
theorem g_match {te : TE} {tcs : List (List Str × TS)} (h : te σ H fun x H1 => ∃ z, x = .str z ∧ tCases tcs z (Ends.mk n r b c) σ H1) : tMatch te tcs (Ends.mk n r b c) σ H := h
theorem g_mstr {R : Str → Prop} (h : R z) : ∃ z', V.str z = V.str z' ∧ R z' := ⟨z, rfl, h⟩
theorem g_case {ps : List Str} {t : TS} {tcs : List (List Str × TS)} (h : if isOne z ps = true then t D σ H else tCases tcs z D σ H) : tCases ((ps, t) :: tcs) z D σ H := h
theorem g_caseT {ps : List Str} {t : TS} {tcs : List (List Str × TS)} (e : isOne z ps = true) (h : t D σ H) : tCases ((ps, t) :: tcs) z D σ H := g_case (if_t e h)
theorem g_caseF {ps : List Str} {t : TS} {tcs : List (List Str × TS)} (e : isOne z ps = false) (h : tCases tcs z D σ H) : tCases ((ps, t) :: tcs) z D σ H := g_case (if_f e h)
theorem g_caseN (h : n σ H) : tCases [] z (Ends.mk n r b c) σ H := h
theorem g_truT {K : PySem.W.Frag} {a : Addr} {xs : List V} {R : Bool → Prop} (q : SqT K H a xs) (h : R (!xs.isEmpty)) : ∃ k, TruV K (.ref a) H k ∧ R k := ⟨_, .inr (.inl ⟨xs, q, rfl⟩), h⟩
theorem g_tru {K : PySem.W.Frag} {ta : TE} {R : Bool → Hp → Prop} (h : ta σ H fun x H' => ∃ k, TruV K x H' k ∧ R k H') : tTru K ta σ H R := h
end
/-! ### x(e, .., *y), x a local name that holds a def -/
def HeldS (P : Program) (w : World) (K : PySem.W.Frag) (mg : Str → Option Value) (base : Heap) (k : Nat) (f : Addr) (sp : Sp) : Prop :=
  ∃ (fd : FuncData) (ps : List Str), FnOk P w K mg base CX0 k f fd ps sp ∧ PySem.W.keepIn K (.ref f) = true ∧ Binds K fd ps []
def tCallH (P : Program) (w : World) (K : PySem.W.Frag) (mg : Str → Option Value) (base : Heap) (k : Nat) (tf : TE) (t : TA) : TE := fun σ H Q => tf σ H fun v H0 =>
  ∃ f sp, v = .ref f ∧ HeldS P w K mg base k f sp ∧ t σ H0 fun vs H1 => sp vs H1 Q (fun _ _ _ => False)
theorem pe_callH {X : Cx} {k : Nat} {x : Str} {p pos : Pos} {e : Expr} {es : List Expr} {tf : TE} {t : TA} (hr : Room k X.A) (hf : PE X (.Name x p) tf) (ha : PA X (e :: es) t)
    (he : starEach (e :: es) X.env = (false, eval e X.env) :: starEach es X.env := by rfl) (hst : (backTo pos (starEach es X.env)).any (·.1) = true := by rfl) :
    PE X (.Call (.Name x p) (e :: es) [] pos) (tCallH X.prog X.w X.K X.mg X.base k tf t) := by
  refine ⟨fun pins s σ H Q I h => ?_⟩
  refine wpAny_Call_Name_kw (thn (hf.run pins s σ H _ I h) fun u s1 ⟨v, H1, I1, r1, f, sp, ev, ⟨fd, ps, F, hk, hb⟩, ht⟩ => ?_)
  subst ev
  cases r1
  refine PySem.W.callWith_S2 (h₀ := X.base) I.ok.mod.kin hk (thn (ha.run pos pins s1 σ _ _ I1 ht) fun us s2 ⟨vs, H2, I2, r, q⟩ => ⟨I2.kIn, ?_⟩) he hst
  have q' : sp (vs ++ []) H2 Q (fun _ _ _ => False) := by rw [List.append_nil]; exact q
  exact run_fn (E := fun _ _ _ => False) (CX := CX0) F hr hb .nil (fun _ _ _ _ _ _ _ z => z.elim) I2 r q'
section
variable {σ : St} {H : Hp} {Q : VK}
theorem g_callH {P : Program} {w : World} {K : PySem.W.Frag} {mg : Str → Option Value} {base : Heap} {k : Nat} {tf : TE} {t : TA} (h : tf σ H fun v H0 => ∃ f sp, v = .ref f ∧ HeldS P w K mg base k f sp ∧ t σ H0 fun vs H1 => sp vs H1 Q (fun _ _ _ => False)) :
    tCallH P w K mg base k tf t σ H Q := h
theorem HeldS.of {P : Program} {w : World} {K : PySem.W.Frag} {mg : Str → Option Value} {base : Heap} {j k : Nat} {x : Str} {st : Stmt} {ps : List Str} {sp : Sp} (a : FA K mg x st ps) (F : FnOk P w K mg base CX0 j a.f a.fd ps sp) (h : j ≤ k) : HeldS P w K mg base k a.f sp :=
  ⟨a.fd, ps, F.mono h, a.F.kp, a.b⟩
/-- *y: a tuple's items -/
theorem g_starT {K : PySem.W.Frag} {te : TE} {t : TA} {R : List V → Hp → Prop} (h : te σ H fun x H1 => ∃ p xs, x = V.ref p ∧ SqT K H1 p xs ∧ t σ H1 fun ys H2 => R (xs ++ ys) H2) (mono : ∀ S S' : VK, (∀ v H', S v H' → S' v H') → te σ H S → te σ H S') : StX.tStar K te t σ H R := by
  refine mono _ _ ?_ h
  rintro v H' ⟨p, xs, e, q, k⟩
  exact ⟨p, xs, e, .inl q, k⟩
theorem g_starV {K : PySem.W.Frag} {i : Nat} {p : Addr} {xs : List V} {t : TA} {R : List V → Hp → Prop} (e : σ[i]? = some (some (.ref p))) (q : SqT K H p xs) (h : t σ H fun ys H2 => R (xs ++ ys) H2) : StX.tStar K (tVar i) t σ H R :=
  ⟨_, e, p, xs, rfl, .inl q, h⟩
end
/-! ### a comprehension over zip of two tuples -/
def tLcZ (K : PySem.W.Frag) (a b : Addr) (g : TG) (tt : TT) (te : TE) (vs : List Nat) : TE := tLc (fun _ H R => R (RZ.ItzT K a b) H) g tt te vs
section
variable {K : PySem.W.Frag} {σ : St} {H : Hp} {Q : VK} {g : TG} {tt : TT} {te : TE} {vs : List Nat} {a b : Addr} {xs ys : List V}
theorem g_lcZip {ta : TA} (h : ta σ H fun us H1 => ∃ a b xs ys, us = [.ref a, .ref b] ∧ SqT K H1 a xs ∧ SqT K H1 b ys ∧ tLcZ K a b g tt te vs σ H1 Q) (mono : ∀ S S' : List V → Hp → Prop, (∀ v H', S v H' → S' v H') → ta σ H S → ta σ H S') :
    tLc (RZ.iZipA K ta) g tt te vs σ H Q := by
  refine mono _ _ ?_ h
  rintro us H' ⟨a, b, xs, ys, e, q, q', k⟩
  exact ⟨a, b, xs, ys, e, .inr ⟨q, q', k⟩⟩
theorem g_lcZ (hx : SqT K H a xs) (hy : SqT K H b ys) (hl : xs.length = ys.length) (hz : xs.length ≤ 1000) (v : Nat → V)
    (step : ∀ i x y T H', xs[i]? = some x → ys[i]? = some y → Ex H H' → SqT K H' T [x, y] → ∀ S : VK, (∀ H3, Ex H' H3 → S (v i) H3) →
      g (.ref T) (wipe σ vs) H' fun σ2 H2 => wipe σ2 vs = wipe σ vs ∧ tt σ2 H2 fun b H3 => if b = true then te σ2 H3 S else False)
    (last : ∀ D H', H D = none → Ex H H' → H' D = some (.lst ((List.range xs.length).map v)) → Q (.ref D) H')
    (monoG : ∀ x σ1 H1 (N N' : St → Hp → Prop), (∀ σ2 H2, N σ2 H2 → N' σ2 H2) → g x σ1 H1 N → g x σ1 H1 N')
    (monoT : ∀ σ1 H1 (N N' : Bool → Hp → Prop), (∀ k H2, N k H2 → N' k H2) → tt σ1 H1 N → tt σ1 H1 N') : tLcZ K a b g tt te vs σ H Q := by
  intro D hD
  let Pv : Nat → Hp → Prop := fun i H' => Ex H H' ∧ H' D = some (.lst ((List.range i).map v))
  refine ⟨fun i m H' => m = xs.length - i ∧ i ≤ xs.length ∧ Pv i H', ⟨xs.length, rfl, Nat.zero_le _, Evl.Ex.new hD, upd_same⟩, ?_⟩
  rintro i m H' ⟨rfl, hi, e1, e2⟩
  have qx := Evl.ex_t e1 hx
  have qy := Evl.ex_t e1 hy
  by_cases hlt : i < xs.length
  · have h1 : xs[i]? = some xs[i] := List.getElem?_eq_getElem hlt
    have hlt2 : i < ys.length := by omega
    have h2 : ys[i]? = some ys[i] := List.getElem?_eq_getElem hlt2
    refine .inr ⟨⟨xs, ys, _, _, qx, qy, h1, h2⟩, Pv (i + 1), fun G p => ⟨xs.length - (i + 1), by omega, rfl, hlt, p⟩, fun u G y => ?_⟩
    obtain ⟨T, x', y', rfl, hT, rfl, f1, f2⟩ := y
    have eT : Ex H (upd H' T (.tup [x', y'])) := e1.trans (Evl.Ex.new hT)
    have hS : SqT K (upd H' T (.tup [x', y'])) T [x', y'] := SqT.of upd_same
    refine monoG _ _ _ _ _ ?_ (step i x' y' T _ (f1 xs qx) (f2 ys qy) eT hS (fun y H4 => ∃ acc, H4 D = some (.lst acc) ∧ acc.length < sizeLine ∧ Pv (i + 1) (upd H4 D (.lst (acc ++ [y])))) ?_)
    · rintro σ2 H2 ⟨w, k⟩
      refine ⟨w, monoT _ _ _ _ ?_ k⟩
      intro k H3 q
      cases k with
      | true => exact q
      | false => exact False.elim q
    · intro H3 e3
      have hD3 : H3 D = some (.lst ((List.range i).map v)) := e3 _ _ (Evl.Ex.new hT _ _ e2)
      refine ⟨_, hD3, ?_, Evl.Ex.mut (eT.trans e3) hD, ?_⟩
      · rw [List.length_map, List.length_range]
        exact Nat.lt_of_lt_of_le (Nat.lt_of_lt_of_le hlt hz) (by decide)
      · show upd H3 D _ D = some (.lst ((List.range (i + 1)).map v))
        rw [upd_same, List.range_succ, List.map_append]
        rfl
  · have e : i = xs.length := by omega
    subst e
    exact .inl ⟨⟨xs, ys, qx, qy, .inl (Nat.le_refl _)⟩, last D H' hD e1 e2⟩
theorem g_allL {bs : List Bool} (q : H a = some (.lst (bs.map V.bl))) (h : Q (.bl (bs.all id)) H) : rAll K [.ref a] H Q := ⟨a, bs, rfl, SqL.of q, h⟩
end
/-! ### t.index(x), whole numbers -/
def rTupIx (K : PySem.W.Frag) : V → List V → Hp → VK → Prop := fun x xs H Q => ∃ (p : Addr) (ys : List Int) (z : Int) (j : Nat), x = .ref p ∧ xs = [.int z] ∧ SqT K H p (ys.map V.int) ∧ ys[j]? = some z ∧ (∀ m, m < j → ys[m]? ≠ some z) ∧ Q (.int (j : Nat)) H
theorem flat_ints (ys : List Int) : (ys.map V.int).all flatV = true := by
  rw [List.all_map]
  exact List.all_eq_true.mpr fun _ _ => rfl
theorem mt_tupIx {X : Cx} : MtR X "tuple.index" (rTupIx X.K) := by
  intro pins s σ H x xs v us Q I rx rs h
  obtain ⟨p, ys, z, j, rfl, rfl, hq, hy, hno, q⟩ := h
  cases rx
  obtain ⟨u, rfl, t, rfl⟩ := vals1 rs
  obtain ⟨its, r, pl, hz⟩ := I.tuple hq
  obtain ⟨⟨cls, dd, dt, sl⟩, ho, hc, n, hd⟩ := pl
  simp only at hc hd
  subst hc
  subst hd
  have hl : its.toArray.size = ys.length := by rw [List.size_toArray, ← r.length, List.length_map]
  have hj : j < its.toArray.size := by rw [hl]; exact (List.getElem?_eq_some_iff.mp hy).1
  have at' : ∀ (m : Nat) (hm : m < its.toArray.size), ∃ y t', ys[m]? = some y ∧ its.toArray[m] = Value.int y t' := fun m hm => by
    have hm' : m < ys.length := by rw [← hl]; exact hm
    obtain ⟨w, hw, t', hw'⟩ := r.get (i := m) (x := .int ys[m]) (by simp [hm'])
    refine ⟨ys[m], t', List.getElem?_eq_getElem hm', ?_⟩
    have e := (List.getElem?_eq_some_iff.mp hw).2
    rw [← hw', ← e]
    simp
  refine call_meets PySem.F.slot_tuple_index ⟨_, ho, rfl⟩ PySem.F.entry_tuple_index (PySem.F.args_tuple_index_2 _ _) (TI.tuple_indexAt p its.toArray n dd sl (.int z t) (eqU (.int z)) j hj ?_ ?_)
    ⟨ho, fun w hw => mem_eqAt (x := .int z) ⟨t, rfl⟩ rfl r (flat_ints ys) w (by simpa using hw), ⟨.int (j : Nat), H, I.tok _, ⟨_, rfl⟩, q⟩⟩
  · obtain ⟨y, t', h1, h2⟩ := at' j hj
    rw [hy] at h1
    cases h1
    rw [h2]
    show (z == z) = true
    simp
  · intro m hm hmj
    obtain ⟨y, t', h1, h2⟩ := at' m hm
    rw [h2]
    show (y == z) = false
    refine beq_eq_false_iff_ne.mpr fun e => hno m hmj ?_
    rw [h1, e]
/-! a tuple whose object is known: it has no dict of its own -/
def TupD (H : Hp) (a : Addr) (xs : List V) : Prop := ∃ o : Obj, o.dict = none ∧ H a = some (.frz o (.tup xs))
theorem TupD.sq {K : PySem.W.Frag} {H : Hp} {a : Addr} {xs : List V} (h : TupD H a xs) : SqT K H a xs := by
  obtain ⟨o, _, h⟩ := h
  exact .inl (.inr ⟨o, h⟩)
theorem TupD.ex {H H' : Hp} {a : Addr} {xs : List V} (e : Ex H H') (h : TupD H a xs) : TupD H' a xs := by
  obtain ⟨o, n, h⟩ := h
  exact ⟨o, n, e _ _ h⟩
def r_tupleF (K : PySem.W.Frag) : List V → Hp → VK → Prop := fun xs H Q => ∃ p ys, xs = [.ref p] ∧ SqL K H p ys ∧ ∀ (l : Addr) (o : Obj), H l = none → o.dict = none → Q (.ref l) (upd H l (.frz o (.tup ys)))
theorem call_tupleF {X : Cx} : CallR X (.type "tuple") (r_tupleF X.K) := by
  intro pins s σ H xs us Q I r h
  obtain ⟨p, ys, rfl, hq, q⟩ := h
  obtain ⟨u, rfl, rx⟩ := vals1 r
  cases rx
  obtain ⟨its, r', pl, hz⟩ := I.list hq
  have hlen := r'.length
  refine call_tuple_list pl.isList (fun h' kp => ?_) (by simp only [List.size_toArray] <;> omega)
  have I1 : Inv X pins σ H { s with heap := h' } := I.kept (t' := s.toks) kp
  have I2 : Inv X pins σ (upd H h'.objs.size (.frz { cls := .type "tuple", data := .seq its.toArray } (.tup ys))) { s with heap := h'.push { cls := .type "tuple", data := .seq its.toArray } } :=
    I1.laid (t' := s.toks) (fun b o e => Heap.get?_push_of_some _ e) (Nat.le_refl _) (show ObjOk X.prog X.w _ _ _ (.frz _ (.tup ys)) from ⟨Heap.get?_push_size _ rfl, hz, its, r', IsTup.new _ _⟩)
  exact ⟨.ref h'.objs.size, _, I2, rfl, q _ _ (I1.hok.fresh (Nat.le_refl _)) rfl⟩
theorem g_tupleF {K : PySem.W.Frag} {H : Hp} {Q : VK} {a : Addr} {xs : List V} (q : SqL K H a xs) (h : ∀ p H', H p = none → Ex H H' → TupD H' p xs → Q (.ref p) H') : r_tupleF K [.ref a] H Q :=
  ⟨a, xs, rfl, q, fun p o hp ho => h p _ hp (Evl.Ex.new hp) ⟨o, ho, upd_same⟩⟩
def tBMT (r : V → List V → Hp → VK → Prop) (to : TE) (t : TA) : TE := fun σ H Q => to σ H fun x H1 => (∃ a xs, x = .ref a ∧ TupD H1 a xs) ∧ t σ H1 fun xs H2 => r x xs H2 Q
theorem pe_bmT {X : Cx} {o e : Expr} {es : List Expr} {to : TE} {t : TA} {name : Str} {apos cpos : Pos} {id : String} {r : V → List V → Hp → VK → Prop} (pa : PlainAttrs "tuple") (slot : Slot "tuple" name id) (hty : typeOf (.builtin id) = pure (.type "method_descriptor")) (hm : MtR X id r) (ho : PE X o to) (ha : PA X (e :: es) t)
    (hbase : attributeBase o name X.env (eval o X.env) = eval o X.env := by rfl)
    (hfew : ((backTo cpos (starEach (e :: es) X.env)).all (fun x => !x.1) && (backToKw cpos (keywordEach [] X.env)).all (fun x => x.1.isSome)
      && decide ((e :: es).length + ([] : List Keyword).length + (if ([] : List Keyword).isEmpty then 0 else 1) < 30)) = true := by rfl)
    (hline : (apos.endLine == cpos.line) = true := by rfl) (hs : starEach (e :: es) X.env = (false, eval e X.env) :: starEach es X.env := by rfl) (hplain : (backTo cpos (starEach es X.env)).any (·.1) = false := by rfl) :
    PE X (.Call (.Attribute o name apos) (e :: es) [] cpos) (tBMT r to t) := by
  refine ⟨fun pins s σ H Q I h => ?_⟩
  refine wpAny_Call_method_late hbase hfew hline rfl (thn (ho.run pins s σ H _ I h) fun v s1 ⟨x, H1, I1, r1, ⟨a, xs, ex, ob, od, hx⟩, q1⟩ => ?_)
  subst ex
  obtain rfl : v = Value.ref a := r1
  obtain ⟨g1, _, its, _, g2⟩ : s1.heap.get? a = some ob ∧ xs.length ≤ sizeLine ∧ ∃ its : List Value, Vals xs its ∧ IsTup s1.heap a its.toArray := I1.hok a _ hx
  refine ⟨"tuple", id, pa, slot, hty, g2.typeIs, fun b e => ?_, ?_⟩
  · cases e
    exact ⟨ob, g1, od⟩
  have hA := ha.run cpos pins s1 σ H1 _ I1 q1
  rw [hs] at hA ⊢
  refine Calls.callWith_builtin (by show (false || (backTo cpos (starEach es X.env)).any (·.1)) = false; rw [hplain] <;> rfl) (Calls.evalArgs_plain ?_)
  exact thn hA fun us s2 ⟨vs, H2, I2, r2, q2⟩ => hm pins s2 σ H2 (.ref a) vs _ us Q I2 rfl r2 q2
theorem g_bmT {σ : St} {H : Hp} {Q : VK} {i : Nat} {a : Addr} {xs : List V} {t : TA} {rr : V → List V → Hp → VK → Prop} (e : σ[i]? = some (some (.ref a))) (q : TupD H a xs) (h : t σ H fun ys H2 => rr (.ref a) ys H2 Q) : tBMT rr (tVar i) t σ H Q :=
  ⟨_, e, ⟨a, xs, rfl, q⟩, h⟩
/-! ### keys of a table of the top -/
def rInKD (K : PySem.W.Frag) (w : World) : R2 := fun x y H Q => ∃ (d : Addr) (z : Str) (r : Option Value), x = .str z ∧ y = .ref d ∧ (∃ es n, KDict K w d es n) ∧ PySem.W.nsIn K d z = some r ∧ Q (.bl r.isSome) H
theorem op_inKD {X : Cx} : OpR X (compareOp .In) (rInKD X.K X.w) := by
  intro pins s σ H x y v u Q I rx ry h
  obtain ⟨d, z, r, e1, e2, ⟨es, n, D⟩, e3, q⟩ := h
  exact op_in_kd D pins s σ H x y v u Q I rx ry ⟨z, r, e1, e2, e3, q⟩
section
variable {K : PySem.W.Frag} {w : World} {H : Hp} {Q : VK} {a : Addr} {x : Str}
theorem g_inKDy {v : V} (D : ∃ es n, KDict K w a es n) (d : KDct K w a x v) (h : Q (.bl true) H) : rInKD K w (.str x) (.ref a) H Q := by
  obtain ⟨es, n, u, e, _, e2, _⟩ := d
  exact ⟨a, x, _, rfl, rfl, D, e2, h⟩
theorem g_inKDn (D : ∃ es n, KDict K w a es n) (e : PySem.W.nsIn K a x = some none) (h : Q (.bl false) H) : rInKD K w (.str x) (.ref a) H Q := ⟨a, x, none, rfl, rfl, D, e, h⟩
theorem g_niTu {xs : List V} {v : V} (q : SqT K H a xs) (f1 : flatV v = true) (f2 : xs.all flatV = true) (k : Q (.bl (!inV v xs)) H) : rIn K true v (.ref a) H Q := ⟨a, xs, rfl, .inr q, f1, f2, k⟩
end
def nonB (a : PySem.W.Frag → Addr) (x : Str) (K : PySem.W.Frag) : Bool := He.eqO (PySem.W.nsIn K (a K) x) (some none)
/-- the object that stands at the i-th place of the tuple at a -/
def itmAt (a : PySem.W.Frag → Addr) (i : Nat) (K : PySem.W.Frag) : Addr := match K.lookup (a K) with
  | some ⟨_, _, .seq its _, _⟩ => (match its.toList[i]? with
    | some (.ref b) => b
    | _ => 0)
  | _ => 0
section
open PySem.W
section
variable {prog : Program} {w : World} {A : Around} {E : Value → Shared → Prop} {s : Shared} {T : String} {r d : Addr} {n : Nat} {P : Nat → Value → Prop} {OK : Heap → Prop}
theorem code_tuple_src {Q₁ : Value → Shared → Prop} (S : KdlSrc prog w T r d n P OK) (hT : (Value.type T == Value.type "tuple") = false) (hh : A.handled = none) (hok : OK s.heap) (hn : n ≤ sizeLine)
    (h : ∀ (h' : Heap) (tk : Nat) (acc : Array Value), (∀ b o, s.heap.get? b = some o → h'.get? b = some o) → ItemsOf P acc n →
      Q₁ (.ref h'.objs.size) { s with heap := h'.push { cls := .type "tuple", data := .seq acc }, toks := tk }) :
    codeAny (model prog w) A (.call (.builtin "tuple.__new__") ⟨[.type "tuple", .ref r], []⟩) (wants Q₁ E) s := by
  refine codeAny_of_tree ?_
  show wpAny _ A.in1 (do checkBuiltinCall "tuple.__new__" ⟨[.type "tuple", .ref r], []⟩; again (.builtin "tuple.__new__" ⟨[.type "tuple", .ref r], []⟩)) _ _ s
  refine wpAny_bind (wpAny_of_eq (F.newCall_tuple_1 _) (wpAny_pure ⟨plainId_quiet F.plain_tuple_new _, codeAny_builtin F.entry_tuple_new ?_⟩))
  rw [Around.under_plainId F.plain_tuple_new _]
  have hsub := sub_tuple_self
  have hinit := init_tuple_lookup
  have hmh := madeHere_tuple
  have hTI := S.type s hok
  have hh1 : A.in1.handled = none := hh
  wp_walk using wpAny_typeOf hTI, kdu_collect (A := A.in1) S hh1 hok hn
  intro h' tk acc hk hacc
  show wpAny _ _ (Builtin.Tuple.tupleExact acc.toList.toArray >>= fun v => ret v) _ _ _
  unfold Builtin.Tuple.tupleExact
  refine wpAny_bind (wpAny_newObj_type ?_ (by show acc.toList.toArray.size ≤ sizeLine; simp only [Array.toArray_toList]; rw [hacc.1]; exact hn))
  refine wpAny_pure ?_
  have e : acc.toList.toArray = acc := by simp
  rw [e]
  exact h h' tk acc hk hacc
theorem call_tuple_src {Q : Value → Shared → Prop} (S : KdlSrc prog w T r d n P OK) (hT : (Value.type T == Value.type "tuple") = false) (hh : A.handled = none) (hok : OK s.heap) (hn : n ≤ sizeLine)
    (hQ : ∀ (h' : Heap) (tk : Nat) (acc : Array Value), (∀ b o, s.heap.get? b = some o → h'.get? b = some o) → ItemsOf P acc n →
      Q (.ref h'.objs.size) { s with heap := h'.push { cls := .type "tuple", data := .seq acc }, toks := tk }) :
    wpAny (model prog w) A (call (.type "tuple") [.ref r]) Q E s := by
  refine callType_codes (Q₁ := fun obj s₁ => s₁.TypeIs obj "tuple" ∧ Q obj s₁) F.called_tuple (F.typeCall_tuple_1 _) F.entry_object_init
    (code_tuple_src (A := A.in1) S hT hh hok hn fun h' tk acc hk hacc => ⟨⟨_, Heap.get?_push_size _ rfl, rfl⟩, hQ h' tk acc hk hacc⟩) fun obj s₁ h₁ => ?_
  exact ⟨h₁.1, F.args_object_init_2 obj _, object_init_meets F.called_tuple.init.lookup F.called_tuple.made (by decide) prog w A.in1 _ s₁ ⟨h₁.1, rfl, h₁.2⟩⟩
end
/-! ### the keys of a table -/
def keyS (e : DictEntry) : Option Str := match e.key with
  | .str x _ => some x
  | _ => none
def KeysL (K : PySem.W.Frag) (w : World) (a : Addr) (ks : List Str) : Prop := ∃ es n, KDict K w a es n ∧ es.toList.map keyS = ks.map some ∧ ks.length ≤ 1000
def keysD (a : PySem.W.Frag → Addr) (ks : List Str) (K : PySem.W.Frag) : Bool := match K.lookup (a K) with
  | some ⟨_, _, .dict es _, _⟩ => decide (es.toList.map keyS = ks.map some) && decide (ks.length ≤ 1000)
  | _ => false
theorem keysD_ok {K : PySem.W.Frag} {w : World} {a : PySem.W.Frag → Addr} {ks : List Str} (d : ∃ es n, KDict K w (a K) es n) (h : keysD a ks K = true) : KeysL K w (a K) ks := by
  obtain ⟨es, n, d⟩ := d
  unfold keysD at h
  rw [d.at_] at h
  obtain ⟨h1, h2⟩ := He.ba h
  exact ⟨es, n, d, of_decide_eq_true h1, of_decide_eq_true h2⟩
theorem pd_at {α β : Type} {F : α → β → Prop} : ∀ {xs : List α} {ys : List β}, xs.length = ys.length → (∀ (i : Nat) (x : α) (y : β), xs[i]? = some x → ys[i]? = some y → F x y) → Paired F xs ys
  | [], [], _, _ => .nil
  | [], _ :: _, h, _ => by cases h
  | _ :: _, [], h, _ => by cases h
  | x :: xs, y :: ys, h, f => .cons (f 0 x y rfl rfl) (pd_at (by simpa using h) fun i a b e1 e2 => f (i + 1) a b (by simpa using e1) (by simpa using e2))
def r_tupleK (K : PySem.W.Frag) (w : World) : List V → Hp → VK → Prop := fun xs H Q => ∃ d ks, xs = [.ref d] ∧ KeysL K w d ks ∧ ∀ q, H q = none → Q (.ref q) (upd H q (.tup (ks.map V.str)))
theorem call_tupleK {X : Cx} (hc : X.calm = true) : CallR X (.type "tuple") (r_tupleK X.K X.w) := by
  intro pins s σ H xs us Q I r h
  obtain ⟨d, ks, rfl, ⟨es, n, D, hk, hl⟩, q⟩ := h
  obtain ⟨u, rfl, rx⟩ := vals1 r
  cases rx
  have e0 := I.kIn d _ D.at_
  have raw : s.heap.DictRaw d es n := ⟨_, e0, ⟨rfl, rfl, rfl⟩, rfl⟩
  have len : es.size = ks.length := by
    have := congrArg List.length hk
    simpa using this
  have big : ks.length ≤ sizeLine := Nat.le_trans hl (by decide)
  refine call_tuple_src (KdlSrc.rawDict D.low) (by decide) (I.ok.hd hc) raw (by rw [len]; exact big) fun h' tk acc kp hacc => ?_
  have I1 : Inv X pins σ H { s with heap := h', toks := tk } := I.kept (t' := tk) kp
  have vals : Vals (ks.map V.str) acc.toList := by
    refine pd_at (by have l1 := hacc.1; simp only [List.length_map, Array.length_toList]; omega) fun i x v e1 e2 => ?_
    obtain ⟨hi, ev⟩ := hacc.2 i v (by simpa using e2)
    have e3 : (es.toList.map keyS)[i]? = (ks.map some)[i]? := by rw [hk]
    rw [List.getElem?_map, List.getElem?_map] at e3
    rw [List.getElem?_map] at e1
    have e4 : es.toList[i]? = some es[i] := by simp [hi]
    rw [e4] at e3
    cases ek : ks[i]? with
    | none => rw [ek] at e1; cases e1
    | some z =>
      rw [ek] at e1 e3
      have ez : V.str z = x := Option.some.inj e1
      have e5 : keyS es[i] = some z := Option.some.inj e3
      rw [← ez, ev]
      unfold keyS at e5
      split at e5
      · next y t q' =>
        cases e5
        exact ⟨t, q'⟩
      · cases e5
  have I2 : Inv X pins σ (upd H h'.objs.size (.tup (ks.map V.str))) { s with heap := h'.push { cls := .type "tuple", data := .seq acc }, toks := tk } :=
    I1.laid (t' := tk) (fun b o e => Heap.get?_push_of_some _ e) (Nat.le_refl _) (show ObjOk X.prog X.w _ _ _ (.tup (ks.map V.str)) from ⟨by rw [List.length_map]; exact big, acc.toList, vals, by
      have e : acc.toList.toArray = acc := by simp
      rw [e]
      exact IsTup.new _ _⟩)
  exact ⟨.ref h'.objs.size, _, I2, rfl, q _ (I1.hok.fresh (Nat.le_refl _))⟩
theorem g_tupleK {K : PySem.W.Frag} {w : World} {H : Hp} {Q : VK} {a : Addr} {ks : List Str} (k : KeysL K w a ks) (h : ∀ p H', H p = none → Ex H H' → H' p = some (.tup (ks.map V.str)) → Q (.ref p) H') : r_tupleK K w [.ref a] H Q :=
  ⟨a, ks, rfl, k, fun p hp => h p _ hp (Evl.Ex.new hp) upd_same⟩
end
section
open LamX
/-- a lambda's words -/
structure LW where
  params : Arguments
  body : Expr
  scope : Scope
  pos : Pos
abbrev lamFd (q : Str) (L : LW) (cl : List (Str × Addr)) (dV doc pm : Value) (c : Addr) (ctv : Value) : FuncData := PySem.W.kdv_fn "<lambda>" q L.params (.expr L.body) L.scope cl dV doc pm (.ref c) ctv
/-- the object at f is the lambda -/
def LamO (f : Addr) (q : Str) (L : LW) (cl : List (Str × Addr)) (dV : Value) (c : Addr) : HO := .ext fun h => ∃ (doc pm ctv : Value), h.get? f = some ({ cls := .type "function", data := .func (lamFd q L cl dV doc pm c ctv) } : Obj)
def DfAt (H : Hp) (n : Option Int) (dV : Value) : Prop := match n with
  | none => dV = .none
  | some i => ∃ dt, dV = .ref dt ∧ H dt = some (.tup [.int i])
/-- the lambda stands at f -/
def LamAt (H : Hp) (f : Addr) (q : Str) (L : LW) (cl : List (Str × Addr)) (n : Option Int) : Prop :=
  ∃ (c : Addr) (dV : Value), H f = some (LamO f q L cl dV c) ∧ H c = some (CodeO c q) ∧ DfAt H n dV
theorem LamAt.keeps {H H' : Hp} {f : Addr} {q : Str} {L : LW} {cl : List (Str × Addr)} {n : Option Int} (h : LamAt H f q L cl n) (e : ∀ b o, H b = some o → (∀ xs, o ≠ .lst xs) → (∀ ps, o ≠ .tbl ps) → H' b = some o) : LamAt H' f q L cl n := by
  obtain ⟨c, dV, h1, h2, h3⟩ := h
  refine ⟨c, dV, e _ _ h1 (fun xs z => ?_) (fun xs z => ?_), e _ _ h2 (fun xs z => ?_) (fun xs z => ?_), ?_⟩
  · unfold LamO at z; cases z
  · unfold LamO at z; cases z
  · unfold CodeO at z; cases z
  · unfold CodeO at z; cases z
  · cases n with
    | none => exact h3
    | some i =>
      obtain ⟨dt, e1, e2⟩ := h3
      exact ⟨dt, e1, e _ _ e2 (fun xs z => nomatch z) (fun xs z => nomatch z)⟩
theorem LamAt.ex {H H' : Hp} {f : Addr} {q : Str} {L : LW} {cl : List (Str × Addr)} {n : Option Int} (h : LamAt H f q L cl n) (e : Ex H H') : LamAt H' f q L cl n := h.keeps fun b o q _ _ => e b o q
theorem LamAt.fr {H H' : Hp} {r f : Addr} {q : Str} {L : LW} {cl : List (Str × Addr)} {n : Option Int} {xs : List V} (h : LamAt H f q L cl n) (hr : H r = some (.lst xs)) (e : Fr r H H') : LamAt H' f q L cl n :=
  h.keeps fun b o q n1 _ => e b o (fun z => by rw [z, hr] at q; exact n1 _ (Option.some.inj q).symm) q
theorem LamAt.extN {H H' : Hp} {f : Addr} {q : Str} {L : LW} {cl : List (Str × Addr)} {n : Option Int} (h : LamAt H f q L cl n) (e : ExtN H H') : LamAt H' f q L cl n := h.keeps fun b o q _ n2 => e b o q n2
section
variable {X : Cx} {pins : List (Addr × Obj)} {σ : L2.St} {H : Hp} {s : Shared}
theorem inv_lam {q : Str} {L : LW} {cl : List (Str × Addr)} {dV doc pm ctv : Value} {c : Addr} {o : Obj} {t' : Nat} (I : Inv X pins σ H s) (ho : o = { cls := .type "function", data := .func (lamFd q L cl dV doc pm c ctv) }) :
    Inv X pins σ (L2.upd H s.heap.objs.size (LamO s.heap.objs.size q L cl dV c)) { s with heap := s.heap.push o, toks := t' } := by
  subst ho
  refine I.laid (a := s.heap.objs.size) (fun b u e => Heap.get?_push_of_some _ e) (Nat.le_refl _) ?_
  have e : (s.heap.push ({ cls := .type "function", data := .func (lamFd q L cl dV doc pm c ctv) } : Obj)).get? s.heap.objs.size = some ({ cls := .type "function", data := .func (lamFd q L cl dV doc pm c ctv) } : Obj) := Heap.get?_push_size _ rfl
  exact ⟨⟨doc, pm, ctv, e⟩, ⟨_, e⟩, fun h1 h2 ⟨d, p, t, z⟩ st => ⟨d, p, t, st _ z⟩⟩
theorem lamO_ne {f c : Addr} {q : Str} {L : LW} {cl : List (Str × Addr)} {dV : Value} (ps : Array Value) : LamO f q L cl dV c ≠ .tbl ps := fun z => by
  unfold LamO at z
  cases z
/-- the lambda's object is made: its code object is new, or found in the table -/
theorem lamV_tail {T : List (Addr × Str)} {c P : Addr} {L : LW} {dV : Value} {E : Value → Shared → Prop} {Q : Value → Shared → Prop} (I : Inv X pins σ H s) (TB : TabB X.base X.mg c P) (hcode : X.env.code = .ref c)
    (hm : (P, X.env.qual ++ "<lambda>") ∈ T) (hu : ∀ p ∈ T, p.1 = P → p.2 = X.env.qual ++ "<lambda>") (hT : Tabs T H) (hfree : ∀ y ∈ L.scope.names, y.2 = .free → ∃ c, X.env.cells.lookup y.1 = some c)
    (h : ∀ (f c' : Addr) (H1 : Hp) (s' : Shared), Inv X pins σ H1 s' → ExtN H H1 → Tabs T H1 → H f = none → H1 f = some (LamO f (X.env.qual ++ "<lambda>") L (cloFrom X.env.cells L.scope.names []) dV c') → H1 c' = some (CodeO c' (X.env.qual ++ "<lambda>")) → Q (.ref f) s') :
    wpAny (model X.prog X.w) X.A (makeTail "<lambda>" (X.env.qual ++ "<lambda>") L.params (.expr L.body) L.scope X.env dV .none none L.pos L.pos.line) Q E s := by
  obtain ⟨ps, hP, ht, ha⟩ := hT _ hm
  have bP : s.heap.BuiltinsAt X.mg P := TB.bm.keeps I.bk
  have hP' : s.heap.get? P = some { cls := .none, data := .fields ps } := I.hok P _ hP
  cases hc : codeAmong L.pos ps.toList with
  | none =>
    refine PySem.W.kdv_makeTail (mg := X.mg) (c := c) (P := P) (ps := ps) (closure_ok hfree) I.ok.glob (I.mod.glob.keeps I.bk) hcode (TB.code.keeps I.bk) hP' ht hc TB.gP bP fun c' ctv doc h' tk hx hge hlt hrec htb => ?_
    obtain ⟨c2, oc, vs, t, e2, hoc, hd, hv⟩ := hrec
    cases e2
    have nC : H c' = none := I.hok.fresh hge
    have I1 := inv_table (t' := tk) (more := #[rawInt L.pos.line, rawInt L.pos.col, .ref c']) (h' := h') I hP (fun b o hb e => hx b o hb e) htb hge ⟨oc, vs, t, hoc, hd, hv⟩
    have hE : ExtN H (L2.upd (L2.upd H P (.tbl (ps ++ #[rawInt L.pos.line, rawInt L.pos.col, .ref c']))) c' (CodeO c' (X.env.qual ++ "<lambda>"))) := fun b o e n => by
      rw [upd_ne (ne_of_none e nC), upd_ne (fun z => n ps (Option.some.inj (e.symm.trans (by rw [z]; exact hP))))]
      exact e
    have eL : (ps ++ #[rawInt L.pos.line, rawInt L.pos.col, .ref c']).toList = ps.toList ++ [rawInt L.pos.line, rawInt L.pos.col, .ref c'] := by simp
    have T1 : Tabs T (L2.upd (L2.upd H P (.tbl (ps ++ #[rawInt L.pos.line, rawInt L.pos.col, .ref c']))) c' (CodeO c' (X.env.qual ++ "<lambda>"))) := fun p hp => by
      by_cases hb : p.1 = P
      · rw [hu p hp hb, hb]
        refine ⟨_, by rw [upd_ne (ne_of_none hP nC), upd_same], by rw [eL]; exact PySem.TriplesOk_snoc _ _ _ _ ht, fun p' cv hcv => ?_⟩
        rw [eL] at hcv
        rcases among_app _ ht hcv with z | z
        · obtain ⟨c0, e1, e2⟩ := ha p' cv z
          exact ⟨c0, e1, hE _ _ e2 codeO_ne⟩
        · exact ⟨c', z, upd_same⟩
      · obtain ⟨ps', a1, a2, a3⟩ := hT p hp
        refine ⟨ps', by rw [upd_ne (ne_of_none a1 nC), upd_ne hb]; exact a1, a2, fun p' cv hcv => ?_⟩
        obtain ⟨c0, e1, e2⟩ := a3 p' cv hcv
        exact ⟨c0, e1, hE _ _ e2 codeO_ne⟩
    have nF := I1.hok.fresh (Nat.le_refl _)
    have I2 := inv_lam (q := X.env.qual ++ "<lambda>") (L := L) (cl := cloFrom X.env.cells L.scope.names []) (dV := dV) (c := c') (t' := tk) (doc := doc) (pm := (X.mg "__name__").getD .none) (ctv := ctv) I1 rfl
    refine h h'.objs.size c' _ _ I2 (fun b o e n => ?_) (T1.ext fun b o e => ?_) (I.hok.fresh (Nat.le_trans hge (Nat.le_of_lt hlt))) upd_same ?_
    · have e1 := hE b o e n
      exact (upd_ne (ne_of_none e1 nF)).trans e1
    · exact (upd_ne (ne_of_none e nF)).trans e
    · exact (upd_ne (Nat.ne_of_lt hlt)).trans upd_same
  | some cv =>
    obtain ⟨c', e, hco⟩ := ha L.pos cv hc
    subst e
    refine PySem.W.kdv_makeTailHit (mg := X.mg) (c := c) (P := P) (ps := ps) (closure_ok hfree) I.ok.glob (I.mod.glob.keeps I.bk) hcode (TB.code.keeps I.bk) hP' ht hc bP fun ctv doc h' tk hx hsz => ?_
    have I1 : Inv X pins σ H { s with heap := h', toks := tk } := I.kept hx
    have nF : H h'.objs.size = none := I1.hok.fresh (Nat.le_refl _)
    have I2 := inv_lam (q := X.env.qual ++ "<lambda>") (L := L) (cl := cloFrom X.env.cells L.scope.names []) (dV := dV) (c := c') (t' := tk) (doc := doc) (pm := (X.mg "__name__").getD .none) (ctv := ctv) I1 rfl
    refine h h'.objs.size c' _ _ I2 (fun b o e n => ?_) (hT.ext fun b o e => ?_) nF upd_same ?_
    · exact (upd_ne (ne_of_none e nF)).trans e
    · exact (upd_ne (ne_of_none e nF)).trans e
    · exact (upd_ne (ne_of_none hco nF)).trans hco
end
/-- the names of a lambda without names that the maker's list N holds: its parameters stand outside of N -/
structure LamS1 (N : List Str) (sc scope : Scope) : Prop where
  kind : scope.kind = .function
  co : scope.isCoroutine = false
  gen : scope.isGenerator = false
  own : ∀ y ∈ scope.names, y.2 ≠ .cell ∧ (y.2 = .local → y.1 ∉ N)
  free : ∀ y ∈ scope.names, y.2 = .free → sc.names.lookup y.1 = some .cell ∨ sc.names.lookup y.1 = some .free
def lamS1B (N : List Str) (sc scope : Scope) : Bool :=
  decide (scope.kind = .function) && !scope.isCoroutine && !scope.isGenerator && scope.names.all fun y => !decide (y.2 = .cell) && (!decide (y.2 = .local) || !decide (y.1 ∈ N)) && (!decide (y.2 = .free) || decide (sc.names.lookup y.1 = some .cell) || decide (sc.names.lookup y.1 = some .free))
theorem lamS1_by {N : List Str} {sc scope : Scope} (h : lamS1B N sc scope = true) : LamS1 N sc scope := by
  unfold lamS1B at h
  simp only [Bool.and_eq_true, Bool.or_eq_true, Bool.not_eq_true', decide_eq_true_eq, decide_eq_false_iff_not, List.all_eq_true] at h
  obtain ⟨⟨⟨h1, h2⟩, h3⟩, h4⟩ := h
  refine ⟨h1, h2, h3, fun y hy => ⟨(h4 y hy).1.1, fun e => (h4 y hy).1.2.elim (fun z => absurd e z) id⟩, fun y hy e => ?_⟩
  rcases (h4 y hy).2 with (z | z) | z
  · exact absurd e z
  · exact .inl z
  · exact .inr z
theorem LamS1.has {X : Cx} {scope : Scope} (L : LamS1 X.N X.env.scope scope) (ok : X.Ok) : ∀ y ∈ scope.names, y.2 = .free → ∃ c, X.env.cells.lookup y.1 = some c := fun y hy e => by
  rcases L.free y hy e with k | k
  · exact ok.has _ (.inl k)
  · exact ok.has _ (.inr k)
section
variable {X : Cx} {pins : List (Addr × Obj)} {σ : L2.St} {H HZ : Hp} {s s1 : Shared}
theorem lam_start3 {A : Around} {outer : List Env} {E : XK} {scope : Scope} {f c' : Addr} {h₁ : Heap} {tk : Nat} {m : Str → Option Value} (I : Inv X pins σ H s) (L : LamS1 X.N X.env.scope scope) (e0 : Env0 X.prog X.w X.K X.mg X.base A outer s1 HZ) (hd : A.handled = none)
    (un : Un (frs X.stack) [] H HZ s.heap s1.heap) (hns : h₁.Ns s1.heap.objs.size m) (kp : ∀ b o, s1.heap.get? b = some o → h₁.get? b = some o) :
    Inv (lamCx X A outer s1 HZ E scope f c') [] σ HZ { s1 with heap := h₁, toks := tk } := by
  have hfree := L.has I.ok
  have cm : ∀ {y c}, (cloFrom X.env.cells scope.names []).lookup y = some c → X.env.cells.lookup y = some c := fun {y c} e => by
    rcases cloFrom_mem (PySem.mem_of_lookup e) with hm | ⟨h1, h2⟩
    · cases hm
    · obtain ⟨c1, hc⟩ := hfree _ h1 rfl
      have hc : X.env.cells.lookup y = some c1 := hc
      have e2 : c = c1 := by
        rw [h2, hc] <;> rfl
      rw [e2]
      exact hc
  have look : ∀ {y}, scope.names.lookup y = some .free → ∃ c, (cloFrom X.env.cells scope.names []).lookup y = some c := fun {y} hl => by
    have hy : (y, NameKind.free) ∈ scope.names := PySem.mem_of_lookup hl
    exact mem_lookup (cloFrom_has (cells := X.env.cells) (acc := []) hy)
  have cellK : ∀ {c : Addr} {v : Option Value}, H c = none → s.heap.IsCell c v → h₁.IsCell c v := fun {c v} n ⟨o, ho, hd⟩ => by
    obtain ⟨sl, q⟩ := un.any ho n (by simp)
    exact ⟨_, kp _ _ q, hd⟩
  have noA : ∀ b : Addr, b ∉ (lamCx X A outer s1 HZ E scope f c').ex := fun b z => absurd (show b ∈ ([] : List Addr) from z) (by simp)
  refine ⟨⟨e0.mod, L.kind, rfl, rfl, Nat.le_refl _, fun y z c e1 e2 => I.ok.inj y z c (cm e1) (cm e2), fun y hy => ?_, fun y c z _ => ?_, fun _ => hd, Around.frames_deeper e0.frames, .inr ⟨rfl, rfl⟩, fun b z => absurd z (noA b), e0.bs, e0.bsz, fun b _ _ => noA b,
      fun b z => absurd z (noA b), e0.funs, e0.frf⟩,
    rfl, e0.bare, Un.kept kp, ⟨_, hns, fun i y v e1 e2 e3 => ?_⟩, fun y c e => ?_, e0.hok.fresh (Nat.le_refl _), fun y c e => ?_, fun q hq => absurd (show q ∈ ([] : List (Addr × Obj)) ++ [] from hq) (by simp), e0.hok.kept kp, I.len⟩
  · have hy : scope.names.lookup y = some .cell ∨ scope.names.lookup y = some .free := hy
    rcases hy with hy | hy
    · exact absurd rfl (L.own _ (PySem.mem_of_lookup hy)).1
    · exact look hy
  · have z : false = true := z
    cases z
  · have e3 : Vis scope y := e3
    have e1 : X.N[i]? = some y := e1
    rcases e3 with k | k | k
    · exact absurd (List.mem_of_getElem? e1) ((L.own _ (PySem.mem_of_lookup k)).2 rfl)
    · exact absurd rfl (L.own _ (PySem.mem_of_lookup k)).1
    · obtain ⟨m, hn, hl⟩ := I.loc
      have hvis : Vis X.env.scope y := (L.free _ (PySem.mem_of_lookup k) rfl).elim (fun k => .inr (.inl k)) (fun k => .inr (.inr k))
      obtain ⟨w', r, q⟩ := hl i y v e1 e2 hvis
      obtain ⟨c2, h2⟩ := look k
      refine ⟨w', r, .inr ⟨.inr k, c2, h2, ?_⟩⟩
      have c1 := cm h2
      rcases q with ⟨k', _⟩ | ⟨_, c3, e', z⟩
      · have k' : X.env.scope.names.lookup y = some .local := k'
        rcases L.free _ (PySem.mem_of_lookup k) rfl with k2 | k2 <;> rw [show X.env.scope.names.lookup y = _ from k2] at k' <;> cases k'
      · rw [c1] at e'
        cases e'
        exact cellK (I.freeC y _ c1) z
  · obtain ⟨w', z⟩ := I.cell y c (cm e)
    exact ⟨w', cellK (I.freeC y c (cm e)) z⟩
  · obtain ⟨v, o, ho, hd⟩ := I.cell y c (cm e)
    exact un.free c o ho (I.freeC y c (cm e)) (by simp)
/-- how the lambda's call without arguments binds -/
def LBinds (L : LW) (n : Option Int) : Prop := match n with
  | none => ∀ (q : Str) (cl : List (Str × Addr)) (doc pm : Value) (c : Addr) (ctv : Value), bindArgs (lamFd q L cl .none doc pm c ctv) ⟨[], []⟩ = pure []
  | some _ => ∃ a : Str, L.scope.names.lookup a = some .local ∧ ∀ (q : Str) (cl : List (Str × Addr)) (dt : Addr) (doc pm : Value) (c : Addr) (ctv u : Value),
      ∃ k, bindArgs (lamFd q L cl (.ref dt) doc pm c ctv) ⟨[], []⟩ = seqItems? (.ref dt) >>= k ∧ k (some #[u]) = pure [(a, u)]
theorem lam_binds {M : Model} {A : Around} {L : LW} {n : Option Int} {q : Str} {cl : List (Str × Addr)} {dV doc pm ctv : Value} {c : Addr} {P : List (Str × Value) → Shared → Prop} {E : Value → Shared → Prop} (I : HOk X.prog X.w HZ s1.heap) (b : LBinds L n) (d : DfAt HZ n dV)
    (h : ∀ binds : List (Str × Value), (∀ y ∈ binds, L.scope.names.lookup y.1 = some .local) → P binds s1) : wpAny M A (bindArgs (lamFd q L cl dV doc pm c ctv) ⟨[], []⟩) P E s1 := by
  cases n with
  | none =>
    have e : dV = .none := d
    subst e
    rw [b q cl doc pm c ctv]
    exact wpAny_pure (h [] fun y hy => absurd hy (by simp))
  | some i =>
    obtain ⟨dt, e, hd⟩ := d
    subst e
    obtain ⟨a, ha, b⟩ := b
    obtain ⟨vs, t, r⟩ := (show ∃ vs : List Value, s1.heap.IsTuple dt vs.toArray ∧ Vals [V.int i] vs from by
      have z := I dt _ hd
      obtain ⟨_, vs, r, t⟩ := z
      exact ⟨vs, t, r⟩)
    obtain ⟨o, ho, hc, hdat⟩ := t
    cases r with
    | cons r1 r2 =>
      rename_i u us
      cases r2
      obtain ⟨k, e1, e2⟩ := b q cl dt doc pm c ctv u
      rw [e1]
      obtain ⟨m, hdat⟩ := hdat
      refine wpAny_bind (wpAny_seqItems ho hdat ?_)
      rw [e2]
      exact wpAny_pure (h _ fun y hy => by
        rw [List.mem_singleton] at hy
        rw [hy]
        exact ha)
end

/-! ### the rules -/
def tLamV (T : List (Addr × Str)) (q : Str) (L : LW) (cl : List (Str × Addr)) (n : Option Int) : TE := fun _ H Q => Tabs T H ∧ ∀ (f : Addr) (H1 : Hp), ExtN H H1 → Tabs T H1 → H f = none → LamAt H1 f q L cl n → Q (.ref f) H1
section
variable {X : Cx}
theorem mf_none {M : Model} {A : Around} {E : Value → Shared → Prop} {Q : Value → Shared → Prop} {s : Shared} {name qual : Str} {params : Arguments} {body : FuncBody} {scope : Scope} {env : Env} {pos : Pos} {fl : Nat} (h : wpAny M A (makeTail name qual params body scope env .none .none none pos fl) Q E s) :
    wpAny M A (makeFunction name qual params body scope env [] [] [] pos fl) Q E s := by
  rw [makeFunction_eq]
  simp only [List.zip_nil_right, List.filterMap_nil, List.isEmpty_nil, if_true, pure_bind]
  exact h
theorem mf_one {M : Model} {A : Around} {E : Value → Shared → Prop} {Q : Value → Shared → Prop} {s : Shared} {name qual : Str} {params : Arguments} {body : FuncBody} {scope : Scope} {env : Env} {pos : Pos} {fl : Nat} {v : Value}
    (h : wpAny M A (newTextTuple [v]) (fun dV s' => wpAny M A (makeTail name qual params body scope env dV .none none pos fl) Q E s') E s) :
    wpAny M A (makeFunction name qual params body scope env [v] [] [] pos fl) Q E s := by
  rw [makeFunction_eq]
  simp only [List.zip_nil_right, List.filterMap_nil, List.isEmpty_nil, List.isEmpty_cons, if_true, pure_bind, Bool.false_eq_true, if_false]
  exact wpAny_bind (wpAny_mono h (fun _ _ z => z) fun _ _ z => z)
/-- lambda: body -/
theorem pe_lamV {T : List (Addr × Str)} {c P : Addr} {e : Expr} (L : LW) (he : e = .Lambda L.params L.body L.scope L.pos) (TB : TabB X.base X.mg c P) (hcode : X.env.code = .ref c) (hm : (P, X.env.qual ++ "<lambda>") ∈ T) (hu : ∀ p ∈ T, p.1 = P → p.2 = X.env.qual ++ "<lambda>")
    (S : LamS1 X.N X.env.scope L.scope) (hdef : defaultsOf L.params X.env = ([], [])) : PE X e (tLamV T (X.env.qual ++ "<lambda>") L (cloFrom X.env.cells L.scope.names []) none) := by
  subst he
  refine ⟨fun pins s σ H Q I h => ?_⟩
  obtain ⟨hT, h⟩ := h
  refine PySem.W.kla_eval hdef (mf_none ?_)
  exact lamV_tail I TB hcode hm hu hT (S.has I.ok) fun f c' H1 s' I1 eN T1 nf hf hc => ⟨.ref f, H1, I1, rfl, h f H1 eN T1 nf ⟨c', .none, hf, hc, rfl⟩⟩
/-- lambda a=i: body -/
theorem pe_lamV1 {T : List (Addr × Str)} {c P : Addr} {e : Expr} {i : Int} {j : Nat} {dpos : Pos} (L : LW) (he : e = .Lambda L.params L.body L.scope L.pos) (TB : TabB X.base X.mg c P) (hcode : X.env.code = .ref c) (hm : (P, X.env.qual ++ "<lambda>") ∈ T) (hu : ∀ p ∈ T, p.1 = P → p.2 = X.env.qual ++ "<lambda>")
    (S : LamS1 X.N X.env.scope L.scope) (hdef : defaultsOf L.params X.env = ([eval (.Constant (.int i) j dpos) X.env], [])) : PE X e (tLamV T (X.env.qual ++ "<lambda>") L (cloFrom X.env.cells L.scope.names []) (some i)) := by
  subst he
  refine ⟨fun pins s σ H Q I h => ?_⟩
  obtain ⟨hT, h⟩ := h
  rw [arm_eval_Lambda, hdef]
  show wpAny _ _ (do let dv ← evalAll [eval (.Constant (.int i) j dpos) X.env]; let kdv ← holding dv (evalAllOpt []); makeFunction "<lambda>" (X.env.qual ++ "<lambda>") L.params (.expr L.body) L.scope X.env dv kdv [] L.pos L.pos.line) _ _ s
  have hd : wpAny (model X.prog X.w) X.A (evalAll [eval (.Constant (.int i) j dpos) X.env]) (fun dv s' => ∃ u, dv = [u] ∧ L2.RelV (.int i) u ∧ Inv X pins σ H s') X.xe s := by
    show wpAny _ _ (do let v ← eval (.Constant (.int i) j dpos) X.env; let r ← holding [v] (evalAll []); pure (v :: r)) _ _ s
    refine wpAny_bind (wpAny_mono ((pe_int (X := X) (i := i) (j := j) (pos := dpos)).run pins s σ H (fun v H1 => v = .int i ∧ H1 = H) I ⟨rfl, rfl⟩) (fun u s' z => ?_) fun _ _ z => z)
    obtain ⟨v, H1, I1, r, e1, e2⟩ := z
    subst e1 e2
    exact wpAny_bind (wpAny_holding (wpAny_pure (wpAny_pure ⟨u, rfl, r, I1⟩)))
  refine wpAny_bind (wpAny_mono hd (fun dv s' z => ?_) fun _ _ z => z)
  obtain ⟨u, e1, r, I1⟩ := z
  subst e1
  refine wpAny_bind (wpAny_holding (wpAny_pure (mf_one ?_)))
  refine PySem.wpAny_newTextTuple ?_
  have nD := I1.hok.fresh (Nat.le_refl _)
  have I2 : Inv X pins σ (L2.upd H s'.heap.objs.size (.tup [.int i])) { s' with heap := s'.heap.push { cls := .type "tuple", data := .seq [u].toArray } } := by
    refine I1.laid (t' := s'.toks) (fun b o e => Heap.get?_push_of_some _ e) (Nat.le_refl _) ?_
    exact ⟨by show 1 ≤ sizeLine; rw [sizeLine_eq]; omega, [u], .cons r .nil, ⟨_, Heap.get?_push_size _ rfl, rfl, _, rfl⟩⟩
  have T2 : Tabs T (L2.upd H s'.heap.objs.size (.tup [.int i])) := hT.ext fun b o e => (upd_ne (ne_of_none e nD)).trans e
  exact lamV_tail (dV := .ref s'.heap.objs.size) I2 TB hcode hm hu T2 (S.has I2.ok) fun f c' H1 s2 I3 eN T1 nf hf hc => ⟨.ref f, H1, I3, rfl, h f H1 (fun b o e n => eN b o ((upd_ne (ne_of_none e nD)).trans e) n) T1 (by
      have z := nf
      by_cases hb : f = s'.heap.objs.size
      · rw [hb]; exact nD
      · rw [upd_ne hb] at z; exact z) ⟨c', _, hf, hc, _, rfl, eN _ _ upd_same (fun ps z => nomatch z)⟩⟩
end
/-- what a lambda does when it is called (without arguments) -/
structure LDoes (X : Cx) (k : Nat) (L : LW) (n : Option Int) (t : XK → TE) : Prop where
  S : LamS1 X.N X.env.scope L.scope
  b : LBinds L n
  body : ∀ (A : Around) (outer : List Env) (s : Shared) (H : Hp) (E : XK) (f c' : Addr), Room k (A.deeper (lamEnv X L.scope s.heap.objs.size f c')) → PE (lamCx X A outer s H E L.scope f c') L.body (t E)
section
variable {X : Cx} {pins : List (Addr × Obj)} {σ : L2.St} {H HZ : Hp} {s s1 : Shared}
/-- x(), in the def that got the lambda -/
theorem pe_actV {CXg : CXT} {Eg : XK} {Ng : List Str} {qg : Str} {sg : Scope} {g f : Addr} {cdg : Value} {L : LW} {nd : Option Int} {k i : Nat} {a : Str} {pn : List (Addr × Obj)} {xe : Value → Shared → Prop} {W : WX} {t : XK → TE} {p1 p2 : Pos}
    (I : Inv X pins σ H s) (D : LDoes X k L nd t)
    (tk : Takes ((cxOf CXg X.prog X.w X.K X.mg X.base Ng qg sg g cdg X.A X.stack s H Eg).tr pn xe) W) (hr : Room (k + 1) (X.A.deeper (envOfC qg sg s.heap.objs.size g cdg)))
    (hN : Ng[i]? = some a) (hv : Vis sg a) (hd : (a == ("__debug__" : Str)) = false := by decide) (hcd : (a == ("__classdict__" : Str)) = false := by decide) :
    PE ((cxOf CXg X.prog X.w X.K X.mg X.base Ng qg sg g cdg X.A X.stack s H Eg).tr pn xe) (.Call (.Name a p1) [] [] p2)
      (fun σZ HZ Q => σZ[i]? = some (some (.ref f)) ∧ LamAt HZ f (X.env.qual ++ "<lambda>") L (cloFrom X.env.cells L.scope.names []) nd ∧ t (WE W σZ) σ HZ Q) := by
  refine ⟨fun pinsZ sZ σZ HZ Q IZ h => ?_⟩
  obtain ⟨hs, hc, ht⟩ := h
  refine wpAny_Call_Name_kw (thn ((pe_var (pos := p1) (i := i) hN hv hd hcd).run pinsZ sZ σZ HZ (fun v H1 => v = .ref f ∧ H1 = HZ) IZ ⟨.ref f, hs, rfl, rfl⟩) fun u s1 ⟨v, H1, I1, r1, q1⟩ => ?_)
  obtain ⟨ev, eH⟩ := q1
  subst ev
  rw [eH] at I1
  obtain rfl : u = Value.ref f := r1
  obtain ⟨c', dV, hf, hco, hdf⟩ := hc
  obtain ⟨⟨doc, pm, ctv, of1⟩, _, _⟩ := I1.hok f _ hf
  refine PySem.W.callWith_F0 ⟨_, _, _, _, of1⟩ ?_
  have un : Un (frs X.stack) [] H HZ s.heap s1.heap := I1.base
  obtain ⟨⟨oc, vs, tq, hoc, hdc, hvc⟩, _, _⟩ := I1.hok c' _ hco
  have rc : codeAny (model X.prog X.w) (X.A.deeper (envOfC qg sg s.heap.objs.size g cdg)) (.call (.ref f) ⟨[], []⟩) (CR (L2.CX X.prog X.w) (envOfC qg sg s.heap.objs.size g cdg :: X.stack) X.prog X.w HZ s1 Q (WE W σZ)) s1 := by
    refine PySem.W.kla_callFunE hr.depth of1 rfl D.S.co D.S.gen rfl ⟨c', oc, vs, tq, rfl, hoc, hdc, hvc⟩ ?_
    refine lam_binds (X := X) I1.hok D.b hdf fun binds hloc => ?_
    refine wpAny_newFunctionEnv (fun y hy => (D.S.own y hy).1) hloc (fun h₁ hns hsb => ⟨I1.nolimit.fresh _ hsb, ?_⟩) D.S.kind
    show codeAny _ _ (.expr L.body (lamEnv X L.scope s1.heap.objs.size f c')) _ _
    have kp : ∀ b o, s1.heap.get? b = some o → h₁.get? b = some o := fun b o e => hsb.extBut b o (Nat.ne_of_lt (Heap.lt_size e)) (Heap.get?_push_of_some _ e)
    have J : Inv (lamCx X (X.A.deeper (envOfC qg sg s.heap.objs.size g cdg)) (envOfC qg sg s.heap.objs.size g cdg :: X.stack) s1 HZ (WE W σZ) L.scope f c') [] σ HZ { s1 with heap := h₁, toks := s1.toks + binds.length } :=
      lam_start3 I D.S I1.env0 hr.hd un hns kp
    refine PySem.W.kla_codeExpr (wpAny_mono ((D.body _ _ s1 HZ (WE W σZ) f c' (hr.deeper _)).run [] _ _ HZ Q J ht) (fun v s' hq => ?_) fun e s' hq => hq)
    obtain ⟨w', H', J', rv, q⟩ := hq
    exact ⟨w', H', J'.os, J'.bare, J'.base, J'.hok, rv, q⟩
  have hx : PassesAt (L2.CX X.prog X.w) ((cxOf CXg X.prog X.w X.K X.mg X.base Ng qg sg g cdg X.A X.stack s H Eg).tr pn xe) σZ (WE W σZ) := passAt tk σZ
  refine wpAny_call (codeAny_mono rc fun r s' hq => ?_)
  cases r with
  | error e => exact hx pinsZ HZ s1 e s' I1 hq
  | ok fl =>
    cases fl with
    | ret u => exact I1.after hq
    | next => exact False.elim hq
    | brk => exact False.elim hq
    | cont => exact False.elim hq
end
/-- the def that calls what it got (LA: the lambda stands where it stood; tl: what it does) -/
def GivesV (X : Cx) (Ng : List Str) (x : Str) (sg : Scope) (g : Addr) (cdg : Value) (bg : List Stmt) (a : Str) (TT : (Hp → Prop) → (XK → Hp → VK → Prop) → Hp → VK → Prop) (kg : Nat) : Prop :=
  ∀ (f : Addr) (LA : Hp → Prop) (s : Shared) (H : Hp) (Q : VK) (tl : XK → Hp → VK → Prop), Room kg (X.A.deeper (envOfC x sg s.heap.objs.size g cdg)) →
    (∀ (W : WX) (pn : List (Addr × Obj)) (xe : Value → Shared → Prop) (p1 p2 : Pos), Takes ((cxOf C8.CX0 X.prog X.w X.K X.mg X.base Ng x sg g cdg X.A X.stack s H C8.E0).tr pn xe) W →
      PE ((cxOf C8.CX0 X.prog X.w X.K X.mg X.base Ng x sg g cdg X.A X.stack s H C8.E0).tr pn xe) (.Call (.Name a p1) [] [] p2) (fun σZ HZ Q => σZ[0]? = some (some (.ref f)) ∧ LA HZ ∧ tl (WE W σZ) HZ Q)) →
    TT LA tl H Q → ∃ t, PSs (cxOf C8.CX0 X.prog X.w X.K X.mg X.base Ng x sg g cdg X.A X.stack s H C8.E0).nox bg t ∧ t { nx := fun _ H' => Q .non H', rt := Q } (L2.start Ng [.ref f]) H
/-- the lambdas that a call may hand on: each with what it does -/
def LAll (X : Cx) (k : Nat) (LL : List (LW × Option Int × (XK → TE))) : Prop := ∀ p ∈ LL, LDoes X k p.1 p.2.1 p.2.2
theorem lall_nil {X : Cx} {k : Nat} : LAll X k [] := fun p h => absurd h (by simp)
theorem lall_cons {X : Cx} {k : Nat} {L : LW} {n : Option Int} {t : XK → TE} {r : List (LW × Option Int × (XK → TE))} (h : LDoes X k L n t) (hr : LAll X k r) : LAll X k ((L, n, t) :: r) := fun p hp => by
  rcases List.mem_cons.mp hp with e | e
  · rw [e]; exact h
  · exact hr p e
def tCallLam (q : Str) (cells : List (Str × Addr)) (LL : List (LW × Option Int × (XK → TE))) (TT : (Hp → Prop) → (XK → Hp → VK → Prop) → Hp → VK → Prop) (te : TE) : TE := fun σ H Q => te σ H fun v H1 =>
  ∃ (j : Nat) (f : Addr) (L : LW) (n : Option Int) (t : XK → TE), LL[j]? = some (L, n, t) ∧ v = .ref f ∧ LamAt H1 f q L (cloFrom cells L.scope.names []) n ∧
    TT (fun H' => LamAt H' f q L (cloFrom cells L.scope.names []) n) (fun E H' Q' => t E σ H' Q') H1 Q
section
variable {X : Cx}
/-- x(e), e a lambda of the maker's -/
theorem pe_callLam {LL : List (LW × Option Int × (XK → TE))} {TT : (Hp → Prop) → (XK → Hp → VK → Prop) → Hp → VK → Prop} {x a qual : Str} {g : Addr} {k : Nat} {params : Arguments} {bg : List Stmt} {sg : Scope} {fd : FuncData} {Ng : List Str} {e : Expr} {te : TE} {p pos : Pos}
    (hg : Gl X x) (hm : X.mg x = some (.ref g)) (F : FunD X.K x qual params bg sg [] [] g fd) (hb : L2.Binds X.K fd [a] []) (Sg : FnScope Ng [a] sg) (hNg : Ng[0]? = some a) (hva : Vis sg a) (hq : qual = x)
    (hG : ∀ cdv, GivesV X Ng x sg g cdv bg a TT (k + 1)) (hr : Room (k + 2) X.A) (hL : LAll X k LL) (he : PE X e te)
    (hst : starEach [e] X.env = [(false, eval e X.env)] := by rfl) (hpl : (backTo pos (starEach [] X.env)).any (·.1) = false := by rfl)
    (hdb : (x == ("__debug__" : Str)) = false := by decide) (hd : (a == ("__debug__" : Str)) = false := by decide) (hcd : (a == ("__classdict__" : Str)) = false := by decide) :
    PE X (.Call (.Name x p) [e] [] pos) (tCallLam (X.env.qual ++ "<lambda>") X.env.cells LL TT te) := by
  subst hq
  refine ⟨fun pins s σ H Q I h => ?_⟩
  refine wpAny_Call_Name_kw (ld_glob I hg hm ?_ hdb)
  have ha : PA X [e] (tCons te tNil) := pa_cons he pa_nil hst
  refine PySem.W.callWith_K (h₀ := X.base) I.ok.mod.kin F.kp (thn (ha.run pos pins s σ H (fun vs H1 => match vs with
    | [v] => ∃ (j : Nat) (f : Addr) (L : LW) (n : Option Int) (t : XK → TE), LL[j]? = some (L, n, t) ∧ v = .ref f ∧ LamAt H1 f (X.env.qual ++ "<lambda>") L (cloFrom X.env.cells L.scope.names []) n ∧
        TT (fun H' => LamAt H' f (X.env.qual ++ "<lambda>") L (cloFrom X.env.cells L.scope.names []) n) (fun E H' Q' => t E σ H' Q') H1 Q
    | _ => False) I h) fun us s1 hh => ?_) hst hpl
  obtain ⟨vs, H1, I1, r1, hh⟩ := hh
  obtain ⟨v, ev⟩ : ∃ v, vs = [v] := by
    match vs, hh with
    | [v], _ => exact ⟨v, rfl⟩
  subst ev
  obtain ⟨j, f, L, n, t, hj, e1, hf, hq⟩ := hh
  subst e1
  refine ⟨I1.kIn, ?_⟩
  cases r1 with
  | cons rv rn =>
    rename_i u us'
    cases rn
    obtain rfl : u = Value.ref f := rv
    obtain ⟨oc, od, dV, kV, doc, pm, an, cdv, ct, osl, rfl, lk, hcg, _, _⟩ := F.ex
    have rc : codeAny (model X.prog X.w) X.A (.call (.ref g) ⟨[.ref f], []⟩) (CR C8.CX0 X.stack X.prog X.w H1 s1 Q C8.E0) s1 := by
      have b := hb s1 [.ref f] I1.kIn rfl
      refine run_ofS (N := Ng) (ps := [a]) (us := [.ref f]) (vs := [.ref f]) lk hcg Sg hr I1.env0 b (.cons rfl .nil) rfl fun hr' => ?_
      have D := hL _ (List.mem_of_getElem? hj)
      obtain ⟨t', ht', hq'⟩ := hG cdv f (fun H' => LamAt H' f (X.env.qual ++ "<lambda>") L (cloFrom X.env.cells L.scope.names []) n) s1 H1 Q (fun E H' Q' => t E σ H' Q') hr'
        (fun W pn xe p1 p2 tk => pe_actV (i := 0) I1 D tk hr' hNg hva hd hcd) hq
      exact ⟨t', ht'.nox, hq'⟩
    refine wpAny_call (codeAny_mono rc fun r s2 hq => ?_)
    cases r with
    | error e => exact (show False from hq).elim
    | ok fl =>
      cases fl with
      | ret u => exact I1.after hq
      | next => exact False.elim hq
      | brk => exact False.elim hq
      | cont => exact False.elim hq
end
end
section
open LamX
/-! ### an error class over TimeError over ValueError -/
structure ErrC (K : PySem.W.Frag) (C : Addr) : Prop where
  x : PySem.W.excIn K C [.type "ValueError", .type "Exception", .type "BaseException", .type "object"] "ValueError.__new__" = true
  kp : PySem.W.keepIn K (.ref C) = true
  b : PySem.W.subIn K (.ref C) (.type "BaseException") = some true
  t : PySem.W.typeIn K (.ref C) = some (.type "type")
  e : ExcC K C
def errB (C : PySem.W.Frag → Addr) (K : PySem.W.Frag) : Bool :=
  PySem.W.excIn K (C K) [.type "ValueError", .type "Exception", .type "BaseException", .type "object"] "ValueError.__new__" && (PySem.W.keepIn K (.ref (C K)) && (decide (PySem.W.subIn K (.ref (C K)) (.type "BaseException") = some true) &&
    (decide (PySem.W.typeIn K (.ref (C K)) = some (.type "type")) && (decide (PySem.W.findIn K (.ref (C K)) "__getattribute__" = some (some (.builtin "BaseException.__getattribute__"))) && (decide (PySem.W.findIn K (.ref (C K)) "__getattr__" = some none) &&
    (PySem.W.hasDictIn K (C K) && (decide (PySem.W.findIn K (.ref (C K)) "__class__" = some (some (.builtin "object.__class__"))) && (decide (PySem.W.specialIn K (.builtin "object.__class__") "__get__" = some (some (.builtin "getset_descriptor.__get__"))) &&
    (decide (PySem.W.takesIn K (.builtin "object.__class__") = some true) && decide (PySem.W.mroIn K (C K) (.type "object") = some true))))))))))
theorem errB_ok {C : PySem.W.Frag → Addr} {K : PySem.W.Frag} (h : errB C K = true) : ErrC K (C K) := by
  unfold errB at h
  simp only [Bool.and_eq_true, decide_eq_true_eq] at h
  obtain ⟨h1, h2, h3, h4, h5, h6, h7, h8, h9, h10, h11⟩ := h
  exact ⟨h1, h2, h3, h4, h5, h6, h3, h7, h8, h9, h10, h11⟩
/-- each pair of the classes: the same or not -/
def kitsB (Cs : List (PySem.W.Frag → Addr)) (K : PySem.W.Frag) : Bool := Cs.all fun C => Cs.all fun D => decide (PySem.W.kitOne K (.ref (C K)) (.ref (D K)) = some (decide (C K = D K)))
/-- the classes' places differ -/
def apartB (Cs : List (PySem.W.Frag → Addr)) (K : PySem.W.Frag) : Bool := decide ((Cs.map fun C => C K).Nodup)
def excB (C T : PySem.W.Frag → Addr) (K : PySem.W.Frag) : Bool := decide (PySem.W.exmOne K (.ref (C K)) (.ref (T K)) = some true)
structure Kits (K : PySem.W.Frag) (cs : List Addr) : Prop where
  k : ∀ c ∈ cs, ∀ d ∈ cs, PySem.W.kitOne K (.ref c) (.ref d) = some (decide (c = d))
  nd : cs.Nodup
theorem kits_ok {Cs : List (PySem.W.Frag → Addr)} {K : PySem.W.Frag} (h : kitsB Cs K = true) (h2 : apartB Cs K = true) : Kits K (Cs.map fun C => C K) := by
  refine ⟨fun c hc d hd => ?_, of_decide_eq_true h2⟩
  obtain ⟨C, hC, e⟩ := List.mem_map.mp hc
  obtain ⟨D, hD, e2⟩ := List.mem_map.mp hd
  subst e e2
  exact of_decide_eq_true (List.all_eq_true.mp (List.all_eq_true.mp h C hC) D hD)
theorem nodup_ix {α : Type} {c : α} : ∀ {cs : List α} {i j : Nat}, cs.Nodup → cs[i]? = some c → cs[j]? = some c → i = j
  | [], _, _, _, h, _ => by simp at h
  | a :: r, 0, 0, _, _, _ => rfl
  | a :: r, 0, j + 1, nd, h1, h2 => by
    have e : a = c := Option.some.inj h1
    exact absurd (List.mem_of_getElem? (show r[j]? = some a by rw [e]; exact h2)) (List.nodup_cons.mp nd).1
  | a :: r, i + 1, 0, nd, h1, h2 => by
    have e : a = c := Option.some.inj h2
    exact absurd (List.mem_of_getElem? (show r[i]? = some a by rw [e]; exact h1)) (List.nodup_cons.mp nd).1
  | a :: r, i + 1, j + 1, nd, h1, h2 => congrArg Nat.succ (nodup_ix (List.nodup_cons.mp nd).2 h1 h2)
theorem Kits.at {K : PySem.W.Frag} {cs : List Addr} (k : Kits K cs) {i j : Nat} {c d : Addr} (hi : cs[i]? = some c) (hj : cs[j]? = some d) : PySem.W.kitOne K (.ref c) (.ref d) = some (decide (i = j)) := by
  rw [k.k c (List.mem_of_getElem? hi) d (List.mem_of_getElem? hj)]
  refine congrArg some (decide_eq_decide.mpr ⟨fun e => ?_, fun e => ?_⟩)
  · subst e
    exact nodup_ix k.nd hi hj
  · subst e
    rw [hi] at hj
    exact Option.some.inj hj
/-- raise X('..') of such a class -/
theorem ps_err {X : Cx} {x m : Str} {j : Nat} {p p2 pos pos2 : Pos} {C : Addr} {W : WX} (hc : X.calm = true) (tk : Takes X W) (gC : X.mg x = some (.ref C)) (e : ErrC X.K C) (hg : Gl X x) (hdb : (x == ("__debug__" : Str)) = false := by decide) :
    PS X (.Raise (some (.Call (.Name x p) [.Constant (.str m) j p2] [] pos)) none pos2) (fun _ σ H => W (.ref C) none σ H) :=
  ps_raise hc tk (pmk_own PySem.F.excBase_ValueError e.x gC e.kp (raises_own e.b e.t) hg hdb)
/-- what leaves a callee leaves the caller -/
theorem passU {X : Cx} {E : XK} (tk : Takes X (fun cls d _ H => E cls d H)) : Passes (L2.CX X.prog X.w) X E := passes_call tk fun _ _ _ _ h => h
/-! ### isinstance of a caught error, its class told by the reading -/
def rIsX (K : PySem.W.Frag) (a : Addr) (cls : Value) (d : Option Addr) : List V → Hp → VK → Prop := fun xs H Q => ∃ (D : Addr) (c : Addr) (b : Bool), cls = .ref D ∧ d = none ∧ ExcC K D ∧ xs = [.ref a, .ref c] ∧ PySem.W.kitOne K (.ref D) (.ref c) = some b ∧ Q (.bl b) H
theorem call_isX {X : Cx} {a : Addr} {cls : Value} {d : Option Addr} {oe : Obj} {pn : List (Addr × Obj)} (hz : Zc cls d oe) (hf : ∃ vs, oe.data = .fields vs) : CallR (X.suite a ((a, oe) :: pn)) (.builtin "isinstance") (rIsX X.K a cls d) := by
  intro pins s σ H xs us Q I r h
  obtain ⟨D, c, b, e1, e2, C, e3, e4, q⟩ := h
  subst e1 e2
  exact call_isE C hz hf pins s σ H xs us Q I r ⟨.ref c, .ref c, b, e3, fun u (hu : u = .ref c) => hu, e4, q⟩
/-! ### xs.count(y) of flat values -/
def rCntF (K : PySem.W.Frag) : V → List V → Hp → VK → Prop := fun x xs H Q => ∃ (p : Addr) (ys : List V) (y : V), x = .ref p ∧ xs = [y] ∧ SqL K H p ys ∧ flatV y = true ∧ ys.all flatV = true ∧ Q (.int ((ys.countP fun z => eqV z y : Nat) : Int)) H
theorem cnt_eqU {y : V} : ∀ {xs : List V} {us : List Value}, Vals xs us → xs.all flatV = true → us.countP (eqU y) = xs.countP fun z => eqV z y
  | _, _, .nil, _ => rfl
  | x :: xs, v :: us, .cons r t, f => by
    rw [List.all_cons, Bool.and_eq_true] at f
    rw [List.countP_cons, List.countP_cons, cnt_eqU t f.2, eqU_of r f.1]
theorem mt_countF {X : Cx} : MtR X "list.count" (rCntF X.K) := by
  intro pins s σ H x xs v us Q I rx rxs h
  obtain ⟨p, ys, y, rfl, rfl, hs, fy, fys, q⟩ := h
  cases rx
  obtain ⟨u, rfl, ru⟩ := rxs.one
  obtain ⟨its, rv, ⟨⟨cls, dd, data, sl⟩, n, ho, hc, hdn, hd⟩, hlen⟩ := I.list hs
  simp only at hc hd
  subst hc hd
  refine call_meets PySem.F.slot_list_count ⟨_, ho, rfl⟩ PySem.F.entry_list_count (PySem.F.args_list_count_2 _ _)
    (SeqAt.list_countAt p its.toArray n dd sl u (eqU y)) ⟨ho, fun y' hy => mem_eqAt ru fy rv fys y' (by simpa using hy), ?_⟩
  refine ⟨.int _, H, I.tok _, ⟨s.toks, ?_⟩, q⟩
  show Value.int ((its.toArray.toList.countP (eqU y) : Nat) : Int) s.toks = _
  rw [show its.toArray.toList = its from rfl, cnt_eqU rv fys]
/-! ### first, *others = xs -/
def gStar (K : PySem.W.Frag) (t : TGs) : TG := fun v σ H Q => ∃ a x r, v = .ref a ∧ SqL K H a (x :: r) ∧ ∀ l, H l = none → t [x, .ref l] σ (L2.upd H l (.lst r)) Q
section
variable {prog : Program} {w : World} {A : Around} {s : Shared}
theorem walks_rest {it l : Addr} {items : Array Value} (hh : A.handled = none) (hne : l ≠ it) : WalksS prog w A it [it, l] [it] (fun a b => a = b) (items.size - 1) (fun i v => items[i + 1]? = some v)
    (fun i s => s.heap.IsListIter it l (i + 1) ∧ s.heap.IsList l items ∧ i + 1 ≤ max 1 items.size) where
  sub := by
    intro b hb
    rw [List.mem_singleton] at hb
    rw [hb]
    exact List.mem_cons_self
  grefl := fun _ => rfl
  gtrans := fun _ _ _ h1 h2 => h1.trans h2
  frame := fun i s h' tk ⟨h1, h2, h3⟩ _ k => by
    obtain ⟨o1, e1, r1⟩ := h1
    obtain ⟨o2, e2, r2⟩ := h2
    exact ⟨⟨o1, k it (by simp) _ e1, r1⟩, ⟨o2, k l (by simp) _ e2, r2⟩, h3⟩
  item := fun i s Q E hi ⟨h1, h2, h3⟩ hQ => by
    have lt : i + 1 < items.size := by omega
    refine wpAny_pyNext_list_item h1 h2 (x := items[i + 1]) (by simp [lt]) fun h' hit hs => ?_
    exact hQ _ _ (by simp [lt]) ⟨hit, h2.extBut hs.extBut hne, by omega⟩ ⟨fun b o hb e => hs.extBut b o (by simpa using hb) e, rfl, rfl, rfl, Nat.le_refl _⟩
  done := fun s Q E ⟨h1, h2, h3⟩ hQ => by
    refine wpAny_pyNext_list_end hh h1 h2 (by simp; omega) fun h' he => ?_
    exact hQ _ ⟨fun b o hb e => he b o (by simpa using hb) e, rfl, rfl, rfl, Nat.le_refl _⟩
  self := fun i s Q E ⟨h1, _, _⟩ hQ => wpAny_pyIter_listiter h1 hQ
theorem unpack_star {l : Addr} {x : Value} {r : List Value} {E : Value → Shared → Prop} {Q : List Value → Shared → Prop} (hh : A.handled = none) (hl : s.heap.IsList l (x :: r).toArray) (hz : r.length ≤ sizeLine)
    (hQ : ∀ (h' : Heap) (tk : Tok), (∀ b o, s.heap.get? b = some o → h'.get? b = some o) → Q [x, .ref h'.objs.size] { s with heap := h'.push { cls := .type "list", data := .seq r.toArray }, toks := tk }) :
    wpAny (model prog w) A (unpackItems (.ref l) 2 (some 1)) Q E s := by
  have hlt : l ≠ s.heap.objs.size := by obtain ⟨o, ho, _⟩ := hl; exact Nat.ne_of_lt (Heap.lt_size ho)
  unfold unpackItems
  refine wpAny_bind ?_
  unfold notIterableAtAll
  refine wpAny_bind (wpAny_specialOf hl.typeIs PySem.slot_list_iter.lookup ?_)
  refine wpAny_pure ?_
  simp only [Bool.false_eq_true, if_false]
  refine wpAny_bind (wpAny_holding (wpAny_pyIter_list hl ?_))
  refine wpAny_bind (wpAny_holding (PySem.W.kun_draw hlt 1 0 _ _ ⟨_, Heap.get?_push_size _ rfl, rfl, rfl⟩ (hl.push _) (by simp) fun h₁ hit₁ hs₁ => ?_))
  rw [if_neg (by simp)]
  have hl₁ : h₁.IsList l (x :: r).toArray := (hl.push _).extBut hs₁.extBut hlt
  have hz1 : h₁.objs.size = s.heap.objs.size + 1 := by rw [hs₁.1, Heap.size_push]
  refine wpAny_bind (wpAny_holding ?_)
  refine wpAny_collect_iter (hn := by simpa using hz) (.inr (.inr (.inl rfl))) (walks_rest (A := A.in1) (items := (x :: r).toArray) hh hlt) (fun i s' h => h.1.typeIs) ⟨hit₁, hl₁, by simp⟩ (fun b hb => ?_) List.mem_cons_self fun s' acc hm ha => ?_
  · show b < h₁.objs.size
    have z : l < s.heap.objs.size := by obtain ⟨o, ho, _⟩ := hl; exact Heap.lt_size ho
    rcases List.mem_cons.mp hb with e | e
    · rw [e, hz1]; exact Nat.lt_succ_self _
    · rw [List.mem_singleton] at e
      rw [e, hz1]; exact Nat.lt_succ_of_lt z
  · have ea : acc.toList = r := by
      obtain ⟨e1, e2⟩ := ha
      refine List.ext_getElem? fun j => ?_
      cases hj : acc.toList[j]? with
      | none =>
        have z : acc.size ≤ j := by simpa using hj
        rw [e1] at z
        simp at z
        simp [z]
      | some v =>
        have z := e2 j v (by simpa using hj)
        simpa using z.symm
    rw [ea]
    show wpAny _ _ (if r.length < 2 - 1 - 1 then _ else _) _ _ s'
    rw [if_neg (by omega)]
    show wpAny _ _ (do let z ← newList (r.take (r.length - 0)); pure (List.take 1 (List.drop 0 (x :: r)) ++ [z] ++ r.drop (r.length - 0))) _ _ s'
    rw [Nat.sub_zero, List.take_length, List.drop_length]
    obtain ⟨hp, g, d, t, os⟩ := s'
    obtain ⟨k1, k2, k3, k4, k5⟩ := hm
    dsimp only at k1 k2 k3 k4
    subst k2 k3 k4
    refine wpAny_bind (wpAny_newList ?_)
    refine wpAny_pure ?_
    exact hQ hp t fun b o e => k1 b o (fun z => by
      rw [List.mem_singleton] at z
      rw [z] at e
      exact absurd (Heap.lt_size e) (Nat.lt_irrefl _)) (hs₁.extBut b o (Nat.ne_of_lt (Heap.lt_size e)) (Heap.get?_push_of_some _ e))
end
theorem pg_star {X : Cx} {e1 e2 : Expr} {k : Nat} {p pos : Pos} {t : TGs} (hc : X.calm = true) (h : PGs X [e1, e2] t)
    (hn : (assignEach [e1, .Starred e2 p] X.env).map (·.2) = (assignEach [e1, e2] X.env).map (·.2) := by rfl) (hl : (assignEach [e1, .Starred e2 p] X.env).length = 2 := by rfl) (hst : (assignEach [e1, .Starred e2 p] X.env).findIdx? (·.1) = some 1 := by rfl) :
    PG X (.Tuple [e1, .Starred e2 p] k pos) (gStar X.K t) := by
  refine ⟨fun pins s σ H v u Q I r hw => ?_⟩
  obtain ⟨a, x, xs, e0, hq, hw⟩ := hw
  subst e0
  cases r
  obtain ⟨its, rv, pl, hz⟩ := I.list hq
  have hl' : s.heap.IsList a its.toArray := by
    obtain ⟨o, m, e, c, d, q⟩ := pl
    exact ⟨o, e, c, m, q⟩
  cases rv with
  | cons r1 r2 =>
    rename_i u us
    rw [PyProof.Rows.assign_Tuple]
    refine wpAny_bind (wpAny_standAt ?_)
    unfold unpack
    rw [hl, hst, hn]
    have hz' : us.length ≤ sizeLine := by
      have z2 := r2.length
      simp at hz
      omega
    refine wpAny_bind (wpAny_holding (unpack_star (I.ok.hd hc) hl' hz' fun h' tk hx => ?_))
    have I1 : Inv X pins σ H { s with heap := h', toks := tk } := I.kept hx
    have nF := I1.hok.fresh (Nat.le_refl _)
    have I2 : Inv X pins σ (L2.upd H h'.objs.size (.lst xs)) { s with heap := h'.push { cls := .type "list", data := .seq us.toArray }, toks := tk } := by
      refine I1.laid (t' := tk) (fun b u e => Heap.get?_push_of_some _ e) (Nat.le_refl _) ?_
      exact ⟨by rw [r2.length]; exact hz', us, 0, r2, Heap.get?_push_size _ rfl⟩
    exact h.run pins _ σ _ [x, .ref h'.objs.size] [u, .ref h'.objs.size] Q I2 (.cons r1 (.cons rfl .nil)) (hw _ nF)
/-! ### a def whose code object is told -/
theorem fnC {P : Program} {w : World} {K : PySem.W.Frag} {mg : Str → Option Value} {base : Heap} {x qual : Str} {params : Arguments} {body : List Stmt} {scope : Scope} {f : Addr} {fd : FuncData} {CX : CXT} {N ps : List Str} {k : Nat} {sp : Sp} {p : He.Defn}
    (F : FunD K x qual params body scope [] [] f fd) (hf : He.fAd K p = f) (S : FnScope N ps scope) (len : ∀ vs H Q E, sp vs H Q E → vs.length = ps.length)
    (hbody : ∀ (A : Around) (outer : List Env) (s : Shared) (H : Hp) (vs : List V) (Q : VK) (E : XK), Room k (A.deeper (envOfC qual scope s.heap.objs.size f (.ref (He.cT K p).1))) → sp vs H Q E →
      ∃ t, PSs (cxOf CX P w K mg base N qual scope f (.ref (He.cT K p).1) A outer s H E) body t ∧ t { nx := fun _ H' => Q .non H', rt := Q } (start N vs) H) : FnOk P w K mg base CX (k + 1) f fd ps sp := by
  obtain ⟨oc, od, dV, kV, doc, pm, an, cdv, ct, osl, rfl, lk, hcd, _, _⟩ := F.ex
  obtain ⟨c, rfl⟩ := He.codeIn_ref hcd
  have e : He.codeOf K p = c := He.codeOf_eq (by rw [hf]; exact lk) rfl
  have e2 : (He.cT K p).1 = c := e
  rw [e2] at hbody
  exact fn_of lk hcd S len fun A outer s H vs Q E hr hsp => hbody A outer s H vs Q E hr hsp

/-! ### methods of texts, with names -/
def rStrSplit : V → List V → Hp → VK → Prop := fun x xs H Q => ∃ a b, x = .str a ∧ xs = [.str b] ∧ (b.length == 0) = false ∧ a.length + 2 ≤ sizeLine ∧ rNewStrs (Txt.split a b) H Q
def rStrPart : V → List V → Hp → VK → Prop := fun x xs H Q => ∃ a b, x = .str a ∧ xs = [.str b] ∧ (b.length == 0) = false ∧ a.length ≤ sizeLine ∧
    ∀ p, H p = none → Q (.ref p) (L2.upd H p (.tup [.str (Txt.partition a b).1, .str (Txt.partition a b).2.1, .str (Txt.partition a b).2.2]))
def rStrJoin (K : PySem.W.Frag) : V → List V → Hp → VK → Prop := fun x xs H Q => ∃ a p, ∃ ys : List Str, x = .str a ∧ xs = [.ref p] ∧ (SqL K H p (ys.map V.str) ∨ SqT K H p (ys.map V.str)) ∧
    (ys.map (·.length)).sum + ys.length * a.length ≤ 16777216 ∧ Q (.str (Txt.join a ys)) H
def rStrRemP : V → List V → Hp → VK → Prop := fun x xs H Q => ∃ a b, x = .str a ∧ xs = [.str b] ∧ a.length ≤ sizeLine ∧ Q (.str (Txt.removeprefix a b)) H
def rIntStr : List V → Hp → VK → Prop := fun xs H Q => ∃ a n, xs = [.str a] ∧ PySem.intText? a = some n ∧ a.length ≤ 640 ∧ Q (.int n) H
section
variable {X : Cx}
theorem mtSplit : MtR X "str.split" rStrSplit := mt_split
theorem mtPart : MtR X "str.partition" rStrPart := mt_partition
theorem mtJoin : MtR X "str.join" (rStrJoin X.K) := mt_join
theorem mtRemP : MtR X "str.removeprefix" rStrRemP := mt_removeprefix
theorem crIntStr : CallR X (.type "int") rIntStr := call_int_str
end
/-! ### the parts of a def's words -/
def xE : Expr := .Constant .none 0 ⟨0, 0, 0, 0⟩
def xS : Stmt := .Pass ⟨0, 0, 0, 0⟩
def sBody (s : Stmt) (i : Nat) : Stmt := match s with
  | .FunctionDef (body := b) .. => b.getD i xS
  | .If (body := b) .. => b.getD i xS
  | .For (body := b) .. => b.getD i xS
  | _ => xS
def sVal (s : Stmt) : Expr := match s with
  | .Assign (value := v) .. => v
  | .Expr v _ => v
  | .Return (some v) _ => v
  | .If (test := t) .. => t
  | _ => xE
def eArg (e : Expr) (i : Nat) : Expr := match e with
  | .Call (args := a) .. => a.getD i xE
  | .List es _ => es.getD i xE
  | .Tuple es _ _ => es.getD i xE
  | .BoolOp (values := v) .. => v.getD i xE
  | .Compare (left := l) (comparators := c) .. => if i = 0 then l else c.getD (i - 1) xE
  | .BinOp l _ r _ => if i = 0 then l else r
  | .Subscript v s _ => if i = 0 then v else s
  | .UnaryOp _ v _ => v
  | _ => xE
def lwOf (e : Expr) : LW := match e with
  | .Lambda p b s pos => ⟨p, b, s, pos⟩
  | _ => ⟨⟨[], [], none, [], [], none, []⟩, xE, ⟨.function, [], false, false, []⟩, ⟨0, 0, 0, 0⟩⟩
theorem tab_m {T : Addr × Str} : T ∈ [T] := List.mem_singleton.mpr rfl
theorem tab_u {P : Addr} {q : Str} : ∀ p ∈ [((P, q) : Addr × Str)], p.1 = P → p.2 = q := fun p hp _ => by rw [List.mem_singleton.mp hp]
/-! ### what stays when a lambda is made -/
theorem Row.extN {K : PySem.W.Frag} {H H1 : Hp} {ρ : Rw} (h : Row K H ρ) (e : ExtN H H1) : Row K H1 ρ := by
  obtain ⟨i, s, t, q, k, b⟩ := h
  refine ⟨i, s, t, e _ _ q (fun ps z => nomatch z), fun H' f => ?_, b⟩
  have key := k (fun x => match H x with
    | some (.tbl ps) => some (.tbl ps)
    | _ => H' x) fun a o n ha => by
    show (match H a with | some (.tbl ps) => some (.tbl ps) | _ => H' a) = some o
    rw [ha]
    cases o with
    | tbl ps => rfl
    | _ => exact f a _ n (e a _ ha (fun ps z => nomatch z))
  rcases key with (key | ⟨o, key⟩) | key
  · refine .inl (.inl ?_)
    have key : (match H ρ.2.1 with | some (.tbl ps) => some (.tbl ps) | _ => H' ρ.2.1) = some (.lst (ρ.2.2.map V.int)) := key
    split at key
    · cases key
    · exact key
  · refine .inl (.inr ⟨o, ?_⟩)
    have key : (match H ρ.2.1 with | some (.tbl ps) => some (.tbl ps) | _ => H' ρ.2.1) = some (.frz o (.lst (ρ.2.2.map V.int))) := key
    split at key
    · cases key
    · exact key
  · exact .inr key
theorem TrT.extN {K : PySem.W.Frag} {H H' : Hp} (e : ExtN H H') : TrT K H H' := fun a xs h => by
  rcases h with (h | ⟨o, h⟩) | h
  · exact .inl (.inl (e a _ h fun _ z => nomatch z))
  · exact .inl (.inr ⟨o, e a _ h fun _ z => nomatch z⟩)
  · exact .inr h
theorem tabs_one {P : Addr} {q : Str} {H : Hp} (h : H P = some (.tbl #[])) : Tabs [(P, q)] H := fun p hp => by
  rw [List.mem_singleton.mp hp]
  exact TabS.nil h
theorem tabs_keep {T : List (Addr × Str)} {H H' : Hp} {r : Addr} {xs : List V} (t : Tabs T H) (hr : H r = some (.lst xs)) (e : Fr r H H') : Tabs T H' := fun p hp => by
  obtain ⟨ps, h1, h2, h3⟩ := t p hp
  have ne : ∀ {b : Addr} {o : HO}, H b = some o → (∀ xs, o ≠ .lst xs) → b ≠ r := fun {b o} hb n z => by
    rw [z, hr] at hb
    exact n _ (Option.some.inj hb).symm
  refine ⟨ps, e _ _ (ne h1 fun _ z => nomatch z) h1, h2, fun pos cv hc => ?_⟩
  obtain ⟨c, e1, e2⟩ := h3 pos cv hc
  exact ⟨c, e1, e _ _ (ne e2 fun xs z => by unfold CodeO at z; cases z) e2⟩
theorem g_callLam {q : Str} {cells : List (Str × Addr)} {LL : List (LW × Option Int × (XK → TE))} {TT : (Hp → Prop) → (XK → Hp → VK → Prop) → Hp → VK → Prop} {te : TE} {σ : L2.St} {H : Hp} {Q : VK} (h : te σ H fun v H1 =>
  ∃ (j : Nat) (f : Addr) (L : LW) (n : Option Int) (t : XK → TE), LL[j]? = some (L, n, t) ∧ v = .ref f ∧ LamAt H1 f q L (cloFrom cells L.scope.names []) n ∧
    TT (fun H' => LamAt H' f q L (cloFrom cells L.scope.names []) n) (fun E H' Q' => t E σ H' Q') H1 Q) : tCallLam q cells LL TT te σ H Q := h
end
section
open He
def psB (ps : List (PySem.W.Frag → Bool)) (K : PySem.W.Frag) : Bool := ps.all fun p => p K
theorem psB_at {ps : List (PySem.W.Frag → Bool)} {K : PySem.W.Frag} (h : psB ps K = true) {i : Nat} {p : PySem.W.Frag → Bool} (hp : ps[i]? = some p) : p K = true := List.all_eq_true.mp h p (List.mem_of_getElem? hp)
def obsLT (as : List Addr) (fa : List Fa) (fn : List DefD) (ts : List Tab) (tf : List Defn) (ps : List (PySem.W.Frag → Bool)) (g : Addr → Option Obj) : He.AlX := (obsT fa fn ts (frT g as), psB ps (frT g as) && tabsB g tf (frT g as))
theorem saysLT_of {as : List Addr} {fa : List Fa} {fn : List DefD} {ts : List Tab} {tf : List Defn} {ps : List (PySem.W.Frag → Bool)} {w : World} {h : Heap} (e : obsLT as fa fn ts tf ps h.get? = (valT fn ts w, true)) : He.SaysX fa fn ts tf (psB ps) w h (frT h.get? as) := by
  have e1 : obsT fa fn ts (frT h.get? as) = valT fn ts w := congrArg (fun z : AlX => z.1) e
  have e2 : (psB ps (frT h.get? as) && tabsB h.get? tf (frT h.get? as)) = true := congrArg (fun z : AlX => z.2) e
  obtain ⟨h1, h2⟩ := ba e2
  have key : ∀ p ∈ tf, PySem.W.codeHdIn (frT h.get? as) (cT (frT h.get? as) p).1 (cT (frT h.get? as) p).2 = true ∧ ∃ o, h.get? (cT (frT h.get? as) p).2 = some o ∧ emptyTab o = true := fun p hp => by
    obtain ⟨h3, h4⟩ := ba (List.all_eq_true.mp h2 p hp)
    refine ⟨h3, ?_⟩
    cases q : h.get? (cT (frT h.get? as) p).2 with
    | none =>
      rw [q] at h4
      cases h4
    | some o =>
      rw [q] at h4
      exact ⟨o, rfl, h4⟩
  exact ⟨e1, h1, fun p hp => (key p hp).1, fun p hp => by
    obtain ⟨_, o, q, z⟩ := key p hp
    exact frT_none q z, fun p hp => by
    obtain ⟨_, o, q, z⟩ := key p hp
    rw [q, emptyTab_eq z]⟩
def hookLT (as : List Addr) (fa : List Fa) (fn : List DefD) (ts : List Tab) (tf : List Defn) (ps : List (PySem.W.Frag → Bool)) : PySem.W.Hook where
  α := He.AlX
  obs := fun s => obsLT as fa fn ts tf ps s.heap.get?
  val := fun w => (valT fn ts w, true)
  says := fun w h => ∃ K : PySem.W.Frag, K.In h ∧ He.SaysX fa fn ts tf (psB ps) w h K
  of := fun _ _ e => ⟨_, frT_in, saysLT_of e⟩
  keeps := fun _ _ _ ⟨K, hK, c⟩ k => ⟨K, PySem.W.Frag.In.keeps hK k, ⟨c.t, c.more, c.hd, c.out, fun p hp => k _ _ (c.empty p hp)⟩⟩
theorem obsLT_eq {as : List Addr} {fa : List Fa} {fn : List DefD} {ts : List Tab} {tf : List Defn} {ps : List (PySem.W.Frag → Bool)} {g : Addr → Option Obj} {s : Shared} (h : ∀ a, g a = s.heap.get? a) : obsLT as fa fn ts tf ps g = (hookLT as fa fn ts tf ps).obs s := by
  have e : g = s.heap.get? := funext h
  rw [e] <;> rfl
def tJoin (ts : List TE) : TE := fun σ H Q => tJs ts Str.empty σ H fun out H1 => Q (.str out) H1
end
section
open TL
def rLenStr : List V → Hp → VK → Prop := fun xs H Q => ∃ z : Str, xs = [.str z] ∧ z.length ≤ sizeLine ∧ Q (.int z.length) H
def rStrInt : List V → Hp → VK → Prop := fun xs H Q => ∃ i : Int, xs = [.int i] ∧ i.natAbs.log2 < 1920 ∧ Q (.str (toString i)) H
def rAddStr : R2 := fun x y H Q => ∃ i j : Str, x = .str i ∧ y = .str j ∧ i.length + j.length ≤ sizeLine ∧ Q (.str (i ++ j)) H
def rInSign : R2 := fun x y H Q => ∃ (c : Nat) (z : Str), x = .str ⟨#[c]⟩ ∧ y = .str z ∧ Q (.bl (decide (c ∈ z.cps.toList))) H
section
variable {X : Cx}
theorem crLenStr : CallR X (.builtin "len") rLenStr := call_len_str
theorem crStrInt : CallR X (.type "str") rStrInt := call_str_int
theorem opAddStr : OpR X (binaryOp .Add) rAddStr := op_add_str
theorem opInSign : OpR X (compareOp .In) rInSign := op_in_sign
end
section
variable {K : PySem.W.Frag} {H : Hp} {Q : VK} {g : TG} {tt : TT} {te : TE} {vs : List Nat} {σ : St}
def tLcS (x : V) (g : TG) (tt : TT) (te : TE) (vs : List Nat) : TE := tLc (iStr fun _ H1 R => R x H1) g tt te vs
theorem g_lcStr {tl : TE} (h : tl σ H fun x H1 => tLcS x g tt te vs σ H1 Q) : tLc (iStr tl) g tt te vs σ H Q := h
theorem gave_at {α : Type} {ds : List α} {i : Nat} {d : α} (h : ds[i]? = some d) : ∃ r, ds.drop i = d :: r := by
  obtain ⟨l, e⟩ := List.getElem?_eq_some_iff.mp h
  exact ⟨_, by rw [List.drop_eq_getElem_cons l, e]⟩
/-- a comprehension over a text's signs -/
theorem g_lcS {z : Str} (hz : z.cps.toList.length ≤ 100000) (f : Nat → Bool) (v : Nat → V)
    (step : ∀ d x H', Ex H H' → x = V.str ⟨#[d]⟩ → LcT g tt te vs σ f v x d H')
    (last : ∀ D H', H D = none → Ex H H' → H' D = some (.lst ((z.cps.toList.filter f).map v)) → Q (.ref D) H') : tLcS (.str z) g tt te vs σ H Q := by
  refine ⟨z, rfl, fun D hD => lc_it (walk_str (z := z)) (LcW H D f v z.cps.toList) ⟨hD, Evl.Ex.new hD, upd_same⟩ (fun _ _ _ _ => trivial) ?_ ?_⟩
  · intro i x H1 H' hi p y
    obtain ⟨e, c, hc, ex⟩ := y
    subst e
    have hc' : z.cps.toList[i]? = some c := by
      rw [Array.getElem?_toList]
      exact hc
    obtain ⟨r, hr⟩ := gave_at hc'
    exact lc_turn hz p hr (step c x H' p.2.1 ex)
  · intro H' p
    obtain ⟨p1, p2, p3⟩ := p
    rw [show z.cps.size = z.cps.toList.length from Array.length_toList.symm, gave_all] at p3
    exact last D H' p1 p2 p3
end
/-! ### integers as texts -/
def dig (c : Nat) : Bool := decide (48 ≤ c ∧ c ≤ 57)
def unM (l : List Nat) : List Nat := match l with
  | 45 :: r => r
  | l => l
def digOk (l : List Nat) : Bool := decide (1 ≤ l.length ∧ l.length ≤ 9) && l.all dig
def intL (l : List Nat) : Int := match l with
  | 45 :: r => -((NumText.digitsVal r : Nat) : Int)
  | l => ((NumText.digitsVal l : Nat) : Int)
def intOf (w : Str) : Option Int := if digOk (unM (tl w)) = true then (if (toString (intL (tl w)) : Str) = w then some (intL (tl w)) else none) else none
theorem tl_remP (w : Str) : tl (Txt.removeprefix w "-") = unM (tl w) := by
  have e : (("-" : Str).cps.toList) = [45] := by decide +kernel
  have el : ("-" : Str).length = 1 := by decide +kernel
  rw [StrLaws.removeprefix_eq, StrLaws.subAt_eq, e, el]
  have wl : w.length = (tl w).length := len_tl w
  have ew : w.cps.toList = tl w := rfl
  rw [ew, wl, List.drop_zero]
  cases h : tl w with
  | nil => rw [if_neg (by decide)]; rw [h]; rfl
  | cons c r =>
    by_cases hc : c = 45
    · subst hc
      rw [if_pos (by simp)]
      show List.take (List.length (45 :: r) - 1) r = r
      exact List.take_of_length_le (by simp)
    · rw [if_neg (by simp; exact hc), h]
      unfold unM
      split
      next r' h => injection h with h1 _; exact absurd h1 hc
      · rfl
theorem digOk_all {l : List Nat} (h : digOk l = true) : 1 ≤ l.length ∧ l.length ≤ 9 ∧ NumText.AllDigits l ∧ l ≠ [] := by
  unfold digOk at h
  rw [Bool.and_eq_true] at h
  have h1 := of_decide_eq_true h.1
  refine ⟨h1.1, h1.2, fun c hc => ?_, fun e => by rw [e] at h1; simp at h1⟩
  exact of_decide_eq_true (List.all_eq_true.mp h.2 c hc)
theorem intText_of {w : Str} (h : digOk (unM (tl w)) = true) : PySem.intText? w = some (intL (tl w)) := by
  obtain ⟨l1, l2, ha, hn⟩ := digOk_all h
  have ew : w.cps.toList = tl w := rfl
  have wl : w.length = (tl w).length := len_tl w
  cases e : tl w with
  | nil =>
    rw [e] at hn
    exact absurd rfl hn
  | cons c r =>
    by_cases hc : c = 45
    · subst hc
      rw [e] at ha hn l2
      rw [e] at wl
      exact intText_neg (by rw [ew, e]) ha hn (by rw [wl]; have : r.length ≤ 9 := l2; simp only [List.length_cons]; omega)
    · have eu : unM (tl w) = tl w := by
        rw [e]
        unfold unM
        split
        next r' h => injection h with h1 _; exact absurd h1 hc
        · rfl
      rw [eu] at ha hn l2
      have ei : intL (c :: r) = ((NumText.digitsVal (c :: r) : Nat) : Int) := by
        unfold intL
        split
        next r' h => injection h with h1 _; exact absurd h1 hc
        · rfl
      rw [ei, ← e]
      exact intText_digits (by rw [ew]; exact ha) (by rw [ew]; exact hn) (by rw [wl]; omega)
theorem joinL_len {c : Nat} : ∀ {ps : List (List Nat)}, ps.length ≤ (joinL [c] ps).length + 1 ∧ ∀ p ∈ ps, p.length ≤ (joinL [c] ps).length
  | [] => ⟨by simp, fun p h => by simp at h⟩
  | [p] => ⟨by simp, fun q h => by rw [List.mem_singleton.mp h]; exact Nat.le_refl _⟩
  | p :: q :: r => by
    have ih := joinL_len (c := c) (ps := q :: r)
    have e : joinL [c] (p :: q :: r) = p ++ ([c] ++ joinL [c] (q :: r)) := rfl
    rw [e]
    simp only [List.length_append, List.length_cons, List.length_nil] at ih ⊢
    refine ⟨by omega, fun z hz => ?_⟩
    rcases List.mem_cons.mp hz with h | h
    · rw [h]; omega
    · have := ih.2 z h
      omega
/-- the parts of a text: few, none longer -/
theorem split_small (x y : Str) {c : Nat} (ey : tl y = [c]) : (Txt.split x y).length ≤ x.length + 1 ∧ ∀ p ∈ Txt.split x y, p.length ≤ x.length := by
  have e : tl (Str.join y (Txt.split x y)) = tl x := congrArg tl (StrLaws.join_split x y)
  rw [tl_join, ey] at e
  have q := joinL_len (c := c) (ps := (Txt.split x y).map tl)
  rw [e, List.length_map] at q
  have lx := len_tl x
  refine ⟨by omega, fun p hp => ?_⟩
  have := q.2 (tl p) (List.mem_map.mpr ⟨p, hp, rfl⟩)
  rw [← len_tl p] at this
  omega
theorem fold_lt : ∀ (l : List Nat) (a : Nat), NumText.AllDigits l → l.foldl (fun acc c => acc * 10 + (c - 48)) a < (a + 1) * 10 ^ l.length
  | [], a, _ => by simp
  | c :: r, a, h => by
    have hc := h.head
    have q := fold_lt r (a * 10 + (c - 48)) h.tail
    rw [List.foldl_cons, List.length_cons, Nat.pow_succ]
    refine Nat.lt_of_lt_of_le q ?_
    rw [Nat.mul_comm (10 ^ r.length) 10, ← Nat.mul_assoc]
    exact Nat.mul_le_mul_right _ (by omega)
theorem intL_small {l : List Nat} (h : digOk (unM l) = true) : (intL l).natAbs < 10 ^ 9 := by
  obtain ⟨l1, l2, ha, hn⟩ := digOk_all h
  have key : ∀ m : List Nat, NumText.AllDigits m → m.length ≤ 9 → NumText.digitsVal m < 10 ^ 9 := fun m hm lm => by
    have q := fold_lt m 0 hm
    rw [Nat.zero_add, Nat.one_mul] at q
    exact Nat.lt_of_lt_of_le q (Nat.pow_le_pow_right (by decide) lm)
  by_cases c : ∃ r, l = 45 :: r
  · obtain ⟨r, rfl⟩ := c
    have := key r ha l2
    show (-((NumText.digitsVal r : Nat) : Int)).natAbs < _
    omega
  · have eu : unM l = l := by
      unfold unM
      split
      next r => exact absurd ⟨r, rfl⟩ c
      · rfl
    have el : intL l = ((NumText.digitsVal l : Nat) : Int) := by
      unfold intL
      split
      next r => exact absurd ⟨r, rfl⟩ c
      · rfl
    rw [eu] at ha l2
    have := key l ha l2
    rw [el]
    omega
theorem log_small {i : Int} (h : i.natAbs < 10 ^ 9) : i.natAbs.log2 < 1920 := by
  by_cases c : i.natAbs = 0
  · rw [c]
    decide
  · exact Nat.lt_of_lt_of_le ((Nat.log2_lt c).mpr (Nat.lt_of_lt_of_le h (by decide : 10 ^ 9 ≤ 2 ^ 30))) (by decide)
theorem tl_int_nat (n : Nat) : tl (toString (n : Int) : Str) = numL n := tl_num n
theorem tl_int_neg (n : Nat) (h : 0 < n) : tl (toString (-(n : Int)) : Str) = 45 :: numL n := by
  obtain ⟨m, rfl⟩ : ∃ m, n = m + 1 := ⟨n - 1, by omega⟩
  have e : toString (-((m + 1 : Nat) : Int)) = "-" ++ toString ((m + 1 : Nat) : Int) := rfl
  show (Str.ofString (toString (-((m + 1 : Nat) : Int)))).cps.toList = _
  rw [e, PyProof.Rows.signs_ofString, String.toList_append, List.map_append]
  have z : List.map Char.toNat (toString ((m + 1 : Nat) : Int)).toList = numL (m + 1) := by
    rw [← PyProof.Rows.signs_ofString]
    exact PySem.W.KIN.signs_num (m + 1)
  rw [z]
  rfl
/-- int(str(i)), i of at most nine digits -/
theorem intOf_str {i : Int} (h : i.natAbs < 10 ^ 9) : intOf (toString i : Str) = some i := by
  have key : digOk (unM (tl (toString i : Str))) = true ∧ intL (tl (toString i : Str)) = i := by
    by_cases c : 0 ≤ i
    · obtain ⟨n, rfl⟩ := Int.eq_ofNat_of_zero_le c
      rw [tl_int_nat]
      have hn : n < 10 ^ 9 := by omega
      have h45 : ∀ r, numL n ≠ 45 :: r := fun r e => by
        have z : 45 ∈ numL n := by rw [e]; exact List.mem_cons_self
        have := numL_digits n 45 z
        omega
      have eu : unM (numL n) = numL n := by
        unfold unM
        split
        next r e => exact absurd e (h45 r)
        · rfl
      have el : intL (numL n) = ((NumText.digitsVal (numL n) : Nat) : Int) := by
        unfold intL
        split
        next r e => exact absurd e (h45 r)
        · rfl
      rw [eu, el, numL_val]
      refine ⟨?_, rfl⟩
      unfold digOk
      rw [Bool.and_eq_true]
      refine ⟨decide_eq_true ⟨?_, numL_len (by decide) hn⟩, List.all_eq_true.mpr fun c hc => decide_eq_true (numL_digits n c hc)⟩
      exact List.length_pos_iff.mpr (numL_ne n)
    · obtain ⟨n, hn⟩ : ∃ n : Nat, i = -(n : Int) := ⟨i.natAbs, by omega⟩
      subst hn
      have hp : 0 < n := by omega
      have hn : n < 10 ^ 9 := by omega
      rw [tl_int_neg n hp]
      show digOk (numL n) = true ∧ -((NumText.digitsVal (numL n) : Nat) : Int) = _
      rw [numL_val]
      refine ⟨?_, rfl⟩
      unfold digOk
      rw [Bool.and_eq_true]
      refine ⟨decide_eq_true ⟨?_, numL_len (by decide) hn⟩, List.all_eq_true.mpr fun c hc => decide_eq_true (numL_digits n c hc)⟩
      exact List.length_pos_iff.mpr (numL_ne n)
  unfold intOf
  rw [if_pos key.1, key.2, if_pos rfl]

theorem filt_true {α : Type} (l : List α) : l.filter (fun _ => true) = l := List.filter_eq_self.mpr fun _ _ => rfl
/-! ### comprehensions whose items are told by a relation -/
section
variable {α : Type} {K : PySem.W.Frag} {H : Hp} {Q : VK} {g : TG} {tt : TT} {te : TE} {vs : List Nat} {σ : St} {a : Addr} {xs : List V} {ds : List α} {F G : Hp → V → α → Prop}
def LcVR (H : Hp) (D : Addr) (G : Hp → V → α → Prop) (f : α → Bool) (ds : List α) (i : Nat) (H' : Hp) : Prop := H D = none ∧ Ex H H' ∧ ∃ acc, H' D = some (.lst acc) ∧ Paired (G H') acc ((ds.take i).filter f)
def LcTR (g : TG) (tt : TT) (te : TE) (vs : List Nat) (σ : St) (G : Hp → V → α → Prop) (f : α → Bool) (x : V) (d : α) (H' : Hp) : Prop :=
  ∀ (R : Hp → Prop) (S : VK), (f d = false → ∀ H3, Ex H' H3 → R H3) → (f d = true → ∀ y H3, Ex H' H3 → G H3 y d → S y H3) →
    g x (wipe σ vs) H' fun σ2 H2 => wipe σ2 vs = wipe σ vs ∧ tt σ2 H2 fun b H3 => if b = true then te σ2 H3 S else R H3
theorem take_filt {f : α → Bool} {i : Nat} {d : α} (h : ds[i]? = some d) : (ds.take (i + 1)).filter f = (ds.take i).filter f ++ (if f d = true then [d] else []) := by
  obtain ⟨l, e⟩ := List.getElem?_eq_some_iff.mp h
  rw [List.take_succ, h, List.filter_append]
  show _ ++ List.filter f [d] = _
  rw [List.filter_cons, List.filter_nil]
theorem lcR_turn {D : Addr} {f : α → Bool} {i : Nat} {x : V} {d : α} {H' : Hp} (hz : ds.length ≤ 100000) (hG : ∀ H1 H2 y d, TrT K H1 H2 → G H1 y d → G H2 y d) (w : LcVR H D G f ds i H') (e : ds[i]? = some d) (t : LcTR g tt te vs σ G f x d H') :
    g x (wipe σ vs) H' fun σ2 H2 => wipe σ2 vs = wipe σ vs ∧ tt σ2 H2 fun b H3 =>
      if b = true then te σ2 H3 fun y H4 => ∃ acc, H4 D = some (.lst acc) ∧ acc.length < sizeLine ∧ LcVR H D G f ds (i + 1) (L2.upd H4 D (.lst (acc ++ [y]))) else LcVR H D G f ds (i + 1) H3 := by
  obtain ⟨w1, w2, acc, w3, w4⟩ := w
  have ll : acc.length ≤ 100000 := by
    rw [Paired.length w4]
    exact Nat.le_trans (List.length_filter_le _ _) (Nat.le_trans (List.length_take_le _ _) (by
      have := (List.getElem?_eq_some_iff.mp e).1
      omega))
  refine t _ _ (fun hf H3 e3 => ⟨w1, w2.trans e3, acc, e3 _ _ w3, ?_⟩) (fun hf y H3 e3 gy => ⟨acc, e3 _ _ w3, Nat.lt_of_le_of_lt ll (by decide), w1, Evl.Ex.mut (w2.trans e3) w1, _, upd_same, ?_⟩)
  · rw [take_filt e, hf, if_neg (by decide), List.append_nil]
    exact L2.Paired.mapP w4 fun _ _ q => hG _ _ _ _ (TrT.of e3) q
  · rw [take_filt e, hf, if_pos rfl]
    have u : TrT K H3 (L2.upd H3 D (.lst (acc ++ [y]))) := TrT.upd (e3 _ _ w3)
    exact pd_app (L2.Paired.mapP w4 fun _ _ q => hG _ _ _ _ u (hG _ _ _ _ (TrT.of e3) q)) (.cons (hG _ _ _ _ u gy) .nil)
theorem g_lcTR (hx : SqT K H a xs) (hp : Paired (F H) xs ds) (hz : ds.length ≤ 100000) (f : α → Bool) (mono : ∀ H' x d, Ex H H' → F H x d → F H' x d) (hG : ∀ H1 H2 y d, TrT K H1 H2 → G H1 y d → G H2 y d)
    (step : ∀ d x H', Ex H H' → F H' x d → LcTR g tt te vs σ G f x d H')
    (last : ∀ D H' ys, H D = none → Ex H H' → H' D = some (.lst ys) → Paired (G H') ys (ds.filter f) → Q (.ref D) H') : tLcT K (.ref a) g tt te vs σ H Q := by
  refine ⟨a, rfl, ⟨xs, hx⟩, fun D hD => lc_tup (K := K) (xs := xs) (LcVR H D G f ds) ⟨hD, Evl.Ex.new hD, [], upd_same, .nil⟩ (fun i H' _ p => Evl.ex_t p.2.1 hx) ?_ ?_⟩
  · intro i x H' hi p
    obtain ⟨d, hd, fd⟩ := pd_get hp hi
    exact lcR_turn hz hG p hd (step d x H' p.2.1 (mono _ _ _ p.2.1 fd))
  · rintro H' ⟨p1, p2, acc, p3, p4⟩
    rw [Paired.length hp, List.take_length] at p4
    exact last D H' acc p1 p2 p3 p4
theorem g_lcLR (hx : SqL K H a xs) (hp : Paired (F H) xs ds) (hz : ds.length ≤ 100000) (f : α → Bool) (mono : ∀ H' x d, Ex H H' → F H x d → F H' x d) (hG : ∀ H1 H2 y d, TrT K H1 H2 → G H1 y d → G H2 y d)
    (step : ∀ d x H', Ex H H' → F H' x d → LcTR g tt te vs σ G f x d H')
    (last : ∀ D H' ys, H D = none → Ex H H' → H' D = some (.lst ys) → Paired (G H') ys (ds.filter f) → Q (.ref D) H') : tLcL K (.ref a) g tt te vs σ H Q := by
  refine ⟨a, rfl, ⟨xs, hx⟩, fun D hD => lc_list (K := K) (xs := xs) (LcVR H D G f ds) ⟨hD, Evl.Ex.new hD, [], upd_same, .nil⟩ (fun i H' _ p => Evl.ex_l p.2.1 hx) ?_ ?_⟩
  · intro i x H' hi p
    obtain ⟨d, hd, fd⟩ := pd_get hp hi
    exact lcR_turn hz hG p hd (step d x H' p.2.1 (mono _ _ _ p.2.1 fd))
  · rintro H' ⟨p1, p2, acc, p3, p4⟩
    rw [Paired.length hp, List.take_length] at p4
    exact last D H' acc p1 p2 p3 p4
theorem g_m1 {to : TE} {r : V → List V → Hp → VK → Prop} (h : to σ H fun x H1 => (∃ z, x = .str z) ∧ te σ H1 fun y H2 => r x [y] H2 Q) : tM1 r to te σ H Q := h
theorem g_isS {z : Str} {A : Prop} (h : A) : (∃ y, V.str z = V.str y) ∧ A := ⟨⟨z, rfl⟩, h⟩
theorem g_fmtS {z : Str} {A B : Prop} (l : z.length ≤ sizeLine) (h : Q (.str z) H) : (∃ y : Str, V.str z = .str y ∧ y.length ≤ sizeLine ∧ Q (.str y) H) ∨ B := .inl ⟨z, rfl, l, h⟩
theorem g_fmtI {i : Int} {A : Prop} (l : i.natAbs.log2 < 1920) (h : Q (.str (toString i)) H) : A ∨ ∃ j : Int, V.int i = .int j ∧ j.natAbs.log2 < 1920 ∧ Q (.str (toString j)) H := .inr ⟨i, rfl, l, h⟩
end

section
variable {σ : St} {H : Hp} {Q : VK} {te t : TE} {ts : List TE} {acc z : Str} {R : Str → Hp → Prop}
theorem g_fmt (h : te σ H fun x H1 => (∃ y : Str, x = .str y ∧ y.length ≤ sizeLine ∧ Q (.str y) H1) ∨ ∃ i : Int, x = .int i ∧ i.natAbs.log2 < 1920 ∧ Q (.str (toString i)) H1) : tFmt te σ H Q := h
theorem g_js (h : t σ H fun x H1 => ∃ y : Str, x = .str y ∧ (acc ++ y).length ≤ sizeLine ∧ tJs ts (acc ++ y) σ H1 R) : tJs (t :: ts) acc σ H R := h
theorem g_jsN (h : R acc H) : tJs [] acc σ H R := h
theorem g_join (h : tJs ts Str.empty σ H fun out H1 => Q (.str out) H1) : tJoin ts σ H Q := h
theorem g_jsS (l : (acc ++ z).length ≤ sizeLine) (h : tJs ts (acc ++ z) σ H R) : ∃ y : Str, V.str z = .str y ∧ (acc ++ y).length ≤ sizeLine ∧ tJs ts (acc ++ y) σ H R := ⟨z, rfl, l, h⟩
end
theorem len_app (a b : Str) : (a ++ b).length = a.length + b.length := by
  rw [len_tl, tl_append, List.length_append, ← len_tl a, ← len_tl b]
theorem empty_app (a : Str) : Str.empty ++ a = a := ext_tl (by rw [tl_append]; rfl)
theorem str_len {i : Int} (h : i.natAbs < 10 ^ 9) : (toString i : Str).length ≤ 10 := by
  have q := intOf_str h
  unfold intOf at q
  by_cases c : digOk (unM (tl (toString i : Str))) = true
  · have l9 := (digOk_all c).2.1
    rw [len_tl]
    have : (tl (toString i : Str)).length ≤ (unM (tl (toString i : Str))).length + 1 := by
      unfold unM
      split
      next r e => rw [e]; simp
      · omega
    omega
  · rw [if_neg c] at q
    cases q
/-- the signs of an integer's text -/
theorem str_free {i : Int} {c : Nat} (h : i.natAbs < 10 ^ 9) (n1 : c ≠ 45) (n2 : c < 48 ∨ 57 < c) : c ∉ tl (toString i : Str) := by
  by_cases p : 0 ≤ i
  · obtain ⟨n, rfl⟩ := Int.eq_ofNat_of_zero_le p
    rw [tl_int_nat]
    exact numL_free n2
  · obtain ⟨n, hn⟩ : ∃ n : Nat, i = -(n : Int) := ⟨i.natAbs, by omega⟩
    subst hn
    rw [tl_int_neg n (by omega)]
    intro m
    rcases List.mem_cons.mp m with e | e
    · exact n1 e
    · exact numL_free n2 e
end
section
variable {prog : Program} {w : World} {A : Around} {E : Value → Shared → Prop} {s : Shared}
theorem slicePartN {v : Value} {Q : Option Int → Shared → Prop} (p : IsPart v none) (h : Q none s) : wpAny (model prog w) A (Builtin.Slice.slicePartIndex v) Q E s := HT.slicePart_ p h
theorem adjust_rev (n : Nat) : Builtin.Slice.sliceAdjust none none (-1) (n : Int) = ((n : Int) - 1, -1) := by
  unfold Builtin.Slice.sliceAdjust
  rfl
theorem places_rev (n : Nat) : Builtin.Slice.slicePlaces ((n : Int) - 1) (-1) (-1) = n := by
  unfold Builtin.Slice.slicePlaces
  have h1 : ¬ ((-1 : Int) > 0) := by omega
  simp only [h1, if_false]
  split
  · show (((n : Int) - 1 - -1 - 1) / (- -1) + 1).toNat = n
    rw [show (- -1 : Int) = 1 from rfl, Int.ediv_one]
    omega
  · omega
theorem sliceApplied_rev {sl : Addr} {vl vu vs : Value} {n : Nat} {Q : Int × Int × Nat → Shared → Prop} (hs : s.heap.IsSliceOf sl vl vu vs) (pl : IsPart vl none) (pu : IsPart vu none) (ps : IsPart vs (some (-1)))
    (h : Q ((n : Int) - 1, -1, n) s) : wpAny (model prog w) A (Builtin.Slice.sliceApplied (.ref sl) (pure (n : Int))) Q E s := by
  obtain ⟨os, hos, hcs, hds⟩ := id hs
  unfold Builtin.Slice.sliceApplied Builtin.Slice.sliceFields
  refine wpAny_bind (wpAny_bind (wpAny_field hos hds (x := vl) rfl (wpAny_bind (wpAny_field hos hds (x := vu) rfl (wpAny_bind (wpAny_field hos hds (x := vs) rfl (wpAny_pure ?_)))))))
  refine wpAny_bind (HT.slicePart_ ps ?_)
  show wpAny _ _ (if ((-1 : Int) == 0) = true then _ else _) _ _ s
  rw [if_neg (by decide)]
  refine wpAny_bind (slicePartN pl (wpAny_bind (slicePartN pu (wpAny_bind (wpAny_pure ?_)))))
  show wpAny _ _ (match Builtin.Slice.sliceAdjust none none (-1) (n : Int) with | (lo, hi) => pure (lo, (-1 : Int), Builtin.Slice.slicePlaces lo hi (-1))) _ _ s
  rw [adjust_rev n]
  show wpAny _ _ (pure ((n : Int) - 1, (-1 : Int), Builtin.Slice.slicePlaces ((n : Int) - 1) (-1) (-1))) _ _ s
  rw [places_rev]
  exact wpAny_pure h
theorem pick_rev (xs : Array Value) : ((List.range xs.size).filterMap fun (m : Nat) => xs[((xs.size : Int) - 1 + (m : Int) * -1).toNat]?).toArray = xs.toList.reverse.toArray := by
  have e : ((List.range xs.size).filterMap fun (m : Nat) => xs[((xs.size : Int) - 1 + (m : Int) * -1).toNat]?) = ((List.range xs.size).map fun k => xs.size - 1 - k).filterMap (xs[·]?) := by
    rw [List.filterMap_map]
    have key : ∀ (l : List Nat), (∀ m ∈ l, m < xs.size) → (l.filterMap fun (m : Nat) => xs[((xs.size : Int) - 1 + (m : Int) * -1).toNat]?) = l.filterMap ((fun x => xs[x]?) ∘ fun k => xs.size - 1 - k) := by
      intro l
      induction l with
      | nil => intro _; rfl
      | cons a r ih =>
        intro h
        have h1 := h a List.mem_cons_self
        have e1 : ((xs.size : Int) - 1 + (a : Int) * -1).toNat = xs.size - 1 - a := by omega
        rw [List.filterMap_cons, List.filterMap_cons, e1, ih fun m hm => h m (List.mem_cons_of_mem _ hm)]
        rfl
    exact key _ fun m hm => List.mem_range.mp hm
  rw [e, PySem.W.krv_range, List.filterMap_reverse, PySem.W.krv_all]
theorem getItem_tuple_rev {t sl : Addr} {items : Array Value} {vl vu vs : Value} {Q : Value → Shared → Prop} (ht : IsTup s.heap t items) (hs : s.heap.IsSliceOf sl vl vu vs) (pl : IsPart vl none) (pu : IsPart vu none) (ps : IsPart vs (some (-1)))
    (h : Q (.ref s.heap.objs.size) { s with heap := s.heap.push { cls := .type "tuple", data := .seq items.toList.reverse.toArray } })
    (hsz : items.size ≤ sizeLine) : wpAny (model prog w) A (getItem (.ref t) (.ref sl)) Q E s := by
  have htake : sizeOk (.seq items.toList.reverse.toArray) := by
    show items.toList.reverse.toArray.size ≤ sizeLine
    rw [List.size_toArray, List.length_reverse, Array.length_toList]
    exact hsz
  obtain ⟨os, hos, hcs, hds⟩ := id hs
  have hTs : s.TypeIs (.ref sl) "slice" := ⟨os, hos, hcs⟩
  unfold getItem
  try with_reducible refine wpAny_holding ?_
  first | refine wpAny_bind (wpAny_pure ?_) | skip
  refine wpAny_bind (wpAny_sequenceKey ht.typeIs (by decide) ?_)
  refine wpAny_bind (wpAny_callSpecial?_slot (name := Str.ofString "__getitem__") ht.typeIs PyProof.Rows.slot_tuple_getitem
    (wpAny_call_entry PyProof.Rows.slot_tuple_getitem ht.typeIs PyProof.Rows.entry_tuple_getitem ?_ (PyProof.Rows.args_tuple_getitem _ _)))
  show wpAny _ _ (Builtin.Tuple.tupleItemsOf (.ref t) >>= _) _ _ s
  refine wpAny_bind (tupleItemsOf_ ht ?_)
  refine wpAny_bind (wpAny_typeOf hTs ?_)
  rw [if_pos (by decide)]
  refine wpAny_bind (sliceApplied_rev hs pl pu ps ?_)
  show wpAny _ _ (if (((items.size : Int) - 1) == 0 && (-1 : Int) == 1 && items.size == items.size) = true then _ else _) _ _ s
  rw [if_neg (by rw [show ((-1 : Int) == 1) = false from rfl, Bool.and_false, Bool.false_and]; exact Bool.false_ne_true), pick_rev]
  first
    | exact wpAny_bind (m := Builtin.Tuple.tupleExact _) (wpAny_newObj_type (wpAny_pure ⟨_, rfl, wpAny_pure h⟩) htake)
    | exact wpAny_bind (m := Builtin.Tuple.tupleExact _) (wpAny_newObj_type (wpAny_bind (wpAny_pure (wpAny_pure ⟨_, rfl, wpAny_pure h⟩))) htake)
    | exact wpAny_bind (wpAny_bind (m := Builtin.Tuple.tupleExact _) (wpAny_newObj_type (wpAny_pure (wpAny_pure ⟨_, rfl, wpAny_pure h⟩)) htake))
    | exact wpAny_bind (wpAny_bind (m := Builtin.Tuple.tupleExact _) (wpAny_newObj_type (wpAny_pure ⟨_, rfl, wpAny_pure h⟩) htake))
end
/-- t[::-1] -/
def tRevT (K : PySem.W.Frag) (te : TE) : TE := fun σ H Q => te σ H fun x H1 => ∃ a xs, x = .ref a ∧ SqT K H1 a xs ∧ ∀ p, H1 p = none → Q (.ref p) (L2.upd H1 p (.tup xs.reverse))
theorem pe_revT {X : Cx} {e : Expr} {te : TE} {k : Nat} {p1 p2 p3 pos : Pos} (he : PE X e te) : PE X (.Subscript e (.Slice none none (some (.UnaryOp .USub (.Constant (.int 1) k p1) p2)) p3) pos) (tRevT X.K te) := by
  refine ⟨fun pins s σ H Q I h => ?_⟩
  refine Subscript_ (thn (he.run pins s σ H _ I h) fun v s1 ⟨x, H1, I1, r1, q1⟩ => ?_)
  obtain ⟨a, xs, ex, hx, q⟩ := q1
  subst ex
  cases r1
  have hst : PO X (some (.UnaryOp .USub (.Constant (.int 1) k p1) p2)) (tPart (tUn (rU fun i => .int (-i)) (tC (.int 1)))) := po_some (pe_un un_neg pe_int)
  refine wpAny_Slice (thn (po_none.run pins s1 σ H1 (fun o H2 => o = none ∧ H2 = H1) I1 ⟨rfl, rfl⟩) fun vl s2 ⟨l, H2, I2, pl, el, e2⟩ => ?_)
  subst el e2
  refine thn (po_none.run pins s2 σ H2 (fun o H3 => o = none ∧ H3 = H2) I2 ⟨rfl, rfl⟩) fun vu s3 ⟨u, H3, I3, pu, eu, e3⟩ => ?_
  subst eu e3
  refine thn (hst.run pins s3 σ H3 (fun o H4 => o = some (-1) ∧ H4 = H3) I3 ⟨1, rfl, -1, rfl, rfl, rfl⟩) fun vs s4 ⟨o, H4, I4, ps, eo, e4⟩ => ?_
  subst eo e4
  have I5 : Inv X pins σ H4 { s4 with heap := s4.heap.push { cls := .type "slice", data := .fields #[vl, vu, vs] } } := I4.kept (t' := s4.toks) fun b ob q => Heap.get?_push_of_some _ q
  obtain ⟨its, r, ht, hz⟩ := I5.tuple hx
  have hlen := r.length
  show wpAny (model X.prog X.w) X.A (subscriptTail e (.Slice none none (some (.UnaryOp .USub (.Constant (.int 1) k p1) p2)) p3) (.ref a) (.ref s4.heap.objs.size)) (EP X pins σ Q) X.xe { s4 with heap := s4.heap.push { cls := .type "slice", data := .fields #[vl, vu, vs] } }
  refine tail_any (ops := [.ref a, .ref s4.heap.objs.size]) ht.typeIs (PyProof.Rows.slot_tuple_getitem.lookup) ?_ (by with_unfolding_all rfl)
  refine getItem_tuple_rev ht (Heap.IsSliceOf.new _ vl vu vs) pl pu ps ?_ (by rw [List.size_toArray]; omega)
  refine ⟨.ref _, _, I5.laid (t' := s4.toks) (o := .tup xs.reverse) (fun b ob q => Heap.get?_push_of_some _ q) (Nat.le_refl _) ?_, rfl, q _ (I5.hok.fresh (Nat.le_refl _))⟩
  exact ⟨by rw [List.length_reverse]; exact hz, _, r.reverse, IsTup.new _ _⟩
theorem g_revT {K : PySem.W.Frag} {te : TE} {σ : St} {H : Hp} {Q : VK} (h : te σ H fun x H1 => ∃ a xs, x = .ref a ∧ SqT K H1 a xs ∧ ∀ p, H1 p = none → Q (.ref p) (L2.upd H1 p (.tup xs.reverse))) : tRevT K te σ H Q := h
/-! ### lists of lambdas -/
section
open LamX
/-- the lambdas, one behind the other -/
def LamsAt (q : Str) (cells : List (Str × Addr)) (H : Hp) (v : V) (L : LW × Option Int) : Prop := ∃ f, v = .ref f ∧ LamAt H f q L.1 (cloFrom cells L.1.scope.names []) L.2
theorem LamsAt.extN {q : Str} {cells : List (Str × Addr)} {H H' : Hp} {v : V} {L : LW × Option Int} (e : ExtN H H') (h : LamsAt q cells H v L) : LamsAt q cells H' v L := by
  obtain ⟨f, rfl, h⟩ := h
  exact ⟨f, rfl, h.extN e⟩
theorem LamsAt.ex {q : Str} {cells : List (Str × Addr)} {H H' : Hp} {v : V} {L : LW × Option Int} (e : Ex H H') (h : LamsAt q cells H v L) : LamsAt q cells H' v L := by
  obtain ⟨f, rfl, h⟩ := h
  exact ⟨f, rfl, h.ex e⟩
theorem LamsAt.fr {q : Str} {cells : List (Str × Addr)} {H H' : Hp} {r : Addr} {xs : List V} {v : V} {L : LW × Option Int} (hr : H r = some (.lst xs)) (e : Fr r H H') (h : LamsAt q cells H v L) : LamsAt q cells H' v L := by
  obtain ⟨f, rfl, h⟩ := h
  exact ⟨f, rfl, h.fr hr e⟩
/-- a list that is changed in its place -/
theorem LamsAt.upd {q : Str} {cells : List (Str × Addr)} {H : Hp} {l : Addr} {xs ys : List V} {v : V} {L : LW × Option Int} (hl : H l = some (.lst xs)) (h : LamsAt q cells H v L) : LamsAt q cells (L2.upd H l (.lst ys)) v L :=
  LamsAt.fr hl Fr.upd h
def EvLs (T : List (Addr × Str)) (q : Str) (cells : List (Str × Addr)) (ta : TA) (Ls : List (LW × Option Int)) : Prop :=
  ∀ σ H (R : List V → Hp → Prop), Tabs T H → (∀ fs H', ExtN H H' → Tabs T H' → Paired (LamsAt q cells H') fs Ls → R fs H') → ta σ H R
theorem evLs_nil {T : List (Addr × Str)} {q : Str} {cells : List (Str × Addr)} : EvLs T q cells tNil [] := fun σ H R t k => k [] H (ExtN.refl H) t .nil
theorem evLs_cons {T : List (Addr × Str)} {q : Str} {cells : List (Str × Addr)} {L : LW} {n : Option Int} {ta : TA} {Ls : List (LW × Option Int)} (h : EvLs T q cells ta Ls) :
    EvLs T q cells (tCons (tLamV T q L (cloFrom cells L.scope.names []) n) ta) ((L, n) :: Ls) := fun σ H R t k =>
  ⟨t, fun f H1 e1 t1 nf la => h σ H1 _ t1 fun fs H2 e2 t2 p => k _ _ (e1.trans e2) t2 (.cons ⟨f, rfl, la.extN e2⟩ p)⟩
theorem g_lams {T : List (Addr × Str)} {q : Str} {cells : List (Str × Addr)} {ta : TA} {Ls : List (LW × Option Int)} {σ : L2.St} {H : Hp} {Q : VK} (h : EvLs T q cells ta Ls) (t : Tabs T H) (few : Ls.length ≤ 1000)
    (k : ∀ l fs H', ExtN H H' → (∀ x o, H x = some o → (∀ ps, o ≠ .tbl ps) → l ≠ x) → Tabs T H' → H' l = some (.lst fs) → Paired (LamsAt q cells H') fs Ls → Q (.ref l) H') : tLst ta σ H Q :=
  h σ H _ t fun fs H1 e1 t1 p => g_newL (by rw [Paired.length p]; omega) fun l H2 n2 e2 h2 => k l fs H2 (e1.trans (ExtN.of e2)) (fun x o hx no z => by
    have := e1 _ _ hx no
    rw [← z, n2] at this
    cases this) (t1.ext e2) h2 (L2.Paired.mapP p fun _ _ q => q.ex e2)
end
/-! ### a comprehension over a range, its items told by a relation -/
section
variable {H : Hp} {Q : VK} {g : TG} {tt : TT} {te : TE} {vs : List Nat} {σ : L2.St} {K : PySem.W.Frag} {G : Hp → V → Int → Prop}
theorem g_lcRgR {n : Nat} (hz : n ≤ 100000) (hG : ∀ H1 H2 y d, TrT K H1 H2 → G H1 y d → G H2 y d)
    (step : ∀ (d : Int) H', 0 ≤ d → d < n → Ex H H' → LcTR g tt te vs σ G (fun _ => true) (.int d) d H')
    (last : ∀ D H' ys, H D = none → Ex H H' → H' D = some (.lst ys) → Paired (G H') ys (irange 0 n) → Q (.ref D) H') : tLc (iRng1 fun _ H2 R => R [.int (n : Int)] H2) g tt te vs σ H Q := by
  have big : ((100000 : Nat) : Int) < 2 ^ 62 := by decide
  refine ⟨(n : Int), rfl, by omega, by omega, fun D hD => ?_⟩
  rw [Int.toNat_natCast]
  refine lc_range (lo := 0) (n := n) (LcVR H D G (fun _ => true) (irange 0 n)) ⟨hD, Evl.Ex.new hD, [], upd_same, .nil⟩ ?_ ?_
  · intro i H' hi p
    have hd : (irange 0 n)[i]? = some (0 + (i : Int)) := by
      unfold irange
      rw [List.getElem?_map, List.getElem?_range hi]
      rfl
    exact lcR_turn (by rw [irange_len]; exact hz) hG p hd (by
      have q := step (0 + (i : Int)) H' (by omega) (by omega) p.2.1
      exact q)
  · rintro H' ⟨p1, p2, acc, p3, p4⟩
    rw [show (irange 0 n).take n = irange 0 n from List.take_of_length_le (by rw [irange_len]; exact Nat.le_refl _), filt_true] at p4
    exact last D H' acc p1 p2 p3 p4
end
/-! ### x in a tuple of data -/
def rInDT (K : PySem.W.Frag) : R2 := fun x y H Q => ∃ d ds, Dp K H x d ∧ Dp K H y (.tuple ds) ∧ SeqAt.shaped d = true ∧ SeqAt.shaped (.list ds) = true ∧ Q (.bl (ds.any fun z => PyData.eqv z d)) H
def rNotInDT (K : PySem.W.Frag) : R2 := fun x y H Q => ∃ d ds, Dp K H x d ∧ Dp K H y (.tuple ds) ∧ SeqAt.shaped d = true ∧ SeqAt.shaped (.list ds) = true ∧ Q (.bl (!ds.any fun z => PyData.eqv z d)) H
section
variable {X : Cx}
theorem op_inDT (hu : X.A.units + 65 < cLine) : OpR X (compareOp .In) (rInDT X.K) := by
  intro pins s σ H x y v u Q I rx ry h
  obtain ⟨d, ds, hd, he, sd, se, q⟩ := h
  obtain ⟨as, r1⟩ := Dp.reads I d x v hd rx
  obtain ⟨bs, r2⟩ := Dp.reads I (.tuple ds) y u he ry
  exact SeqAt.in_tuple_reads r2 r1 (SeqAt.canLay_of_shaped se) (SeqAt.canLay_of_shaped sd) (room_in_shaped sd hu) ⟨.bl _, H, I, rfl, q⟩
theorem op_notInDT (hu : X.A.units + 65 < cLine) : OpR X (compareOp .NotIn) (rNotInDT X.K) := by
  intro pins s σ H x y v u Q I rx ry h
  obtain ⟨d, ds, hd, he, sd, se, q⟩ := h
  obtain ⟨as, r1⟩ := Dp.reads I d x v hd rx
  obtain ⟨bs, r2⟩ := Dp.reads I (.tuple ds) y u he ry
  exact SeqAt.notIn_tuple_reads r2 r1 (SeqAt.canLay_of_shaped se) (SeqAt.canLay_of_shaped sd) (room_in_shaped sd hu) ⟨.bl _, H, I, rfl, q⟩
end
theorem compTurnN_mid {elt t0 i0 t1 i1 : Expr} {ifs0 ifs1 : List Expr} {gs : List Comprehension} {d : Nat} {scope : Scope} {pos : Pos} {it acc : Value} {env : Env} (h0 : gs[d]? = some ⟨t0, i0, ifs0, 0⟩) (h1 : gs[d + 1]? = some ⟨t1, i1, ifs1, 0⟩) :
    compTurn (.ListComp elt gs scope pos) d it acc env = (do
      standAt i0.pos
      match ← pyNext it with
      | none => pure (.done .next)
      | some v =>
        letOwnedTupleGo t0 it v
        assign t0 env v
        let mut ok := true
        for c in ifs0 do
          if ok then ok ← isTrue c env (eval c env)
        if ok then
          let x ← eval i1 env
          standAt i1.pos
          let x ← foldedSetIterable i1 env x
          let _ ← runOwn (.compStart (.ListComp elt gs scope pos) (d + 1) (← holding [x] (pyIter x)) acc env) env
        again (.compLoop (.ListComp elt gs scope pos) d it acc env)) := by
  unfold compTurn
  simp only [h0, h1]
  rfl
theorem compTurnN_last {elt t0 i0 : Expr} {ifs0 : List Expr} {gs : List Comprehension} {d : Nat} {scope : Scope} {pos : Pos} {it acc : Value} {env : Env} (h0 : gs[d]? = some ⟨t0, i0, ifs0, 0⟩) (h1 : gs[d + 1]? = none) :
    compTurn (.ListComp elt gs scope pos) d it acc env = (do
      standAt i0.pos
      match ← pyNext it with
      | none => pure (.done .next)
      | some v =>
        letOwnedTupleGo t0 it v
        assign t0 env v
        let mut ok := true
        for c in ifs0 do
          if ok then ok ← isTrue c env (eval c env)
        if ok then
          (do let _ ← call (.builtin "list.append") [acc, ← eval elt env])
        again (.compLoop (.ListComp elt gs scope pos) d it acc env)) := by
  unfold compTurn
  simp only [h0, h1]
  rfl
section
variable {prog : Program} {w : World} {A : Around} {R : Result → Shared → Prop} {s : Shared} {elt t0 i0 : Expr} {ifs0 : List Expr} {gs : List Comprehension} {d : Nat} {scope : Scope} {pos : Pos} {it acc : Value} {env : Env}
/-- what follows a clause's tests -/
def BodyC (prog : Program) (w : World) (A : Around) (elt : Expr) (gs : List Comprehension) (scope : Scope) (pos : Pos) (d : Nat) (acc : Value) (env : Env) (R' : Shared → Prop) (E : Value → Shared → Prop) (s : Shared) : Prop := match gs[d + 1]? with
  | none => wpAny (model prog w) A (eval elt env) (fun x s₄ => wpAny (model prog w) A (call (.builtin "list.append") [acc, x]) (fun _ s₅ => R' s₅) E s₄) E s
  | some c => wpAny (model prog w) A (eval c.iter env) (fun x s₄ => wpAny (model prog w) A (pyIter x) (fun it1 s₅ =>
      codeAny (model prog w) A (.compStart (.ListComp elt gs scope pos) (d + 1) it1 acc env) (fun r s' => match r with
        | .ok _ => R' s'
        | .error _ => False) s₅) E s₄) E s
/-- the clause behind: none, or a plain one -/
def NextOk (gs : List Comprehension) (d : Nat) (env : Env) : Prop := ∀ c, gs[d + 1]? = some c → c.is_async = 0 ∧ ∀ x, foldedSetIterable c.iter env x = pure x
theorem compLoopN (h0 : gs[d]? = some ⟨t0, i0, ifs0, 0⟩) (hn : NextOk gs d env) (I : Nat → Shared → Prop)
    (turn : ∀ n s, I n s → wpAny (model prog w) A (pyNext it) (fun r s₁ => match r with
      | none => R (.ok .next) s₁
      | some v => wpAny (model prog w) A (letOwnedTupleGo t0 it v) (fun _ s₁' => wpAny (model prog w) A (assign t0 env v) (fun _ s₂ =>
          wpAny (model prog w) A (forIn ifs0 true fun c r => if r = true then do let ok ← isTrue c env (eval c env); pure (ForInStep.yield ok) else pure (ForInStep.yield r)) (fun ok s₃ =>
            if ok = true then BodyC prog w A elt gs scope pos d acc env (fun s' => ∃ m, m < n ∧ I m s') (notedBy (model prog w) A env fun e s' => R (.error e) s') s₃
            else ∃ m, m < n ∧ I m s₃) (notedBy (model prog w) A env fun e s' => R (.error e) s') s₂) (notedBy (model prog w) A env fun e s' => R (.error e) s') s₁') (notedBy (model prog w) A env fun e s' => R (.error e) s') s₁) (notedBy (model prog w) A env fun e s' => R (.error e) s') s)
    (n : Nat) (h : I n s) :
    codeAny (model prog w) A (.compLoop (.ListComp elt gs scope pos) d it acc env) R s := by
  refine codeAny_loop rfl I (fun n s hI => ?_) n h
  show wpAny _ A ((compTurn (.ListComp elt gs scope pos) d it acc env).onRaise (fun x => do noteFrame x env; theTreesLotGoes x)) _ _ s
  refine wpAny_noted ?_
  cases h1 : gs[d + 1]? with
  | none =>
    rw [compTurnN_last h0 h1]
    refine wpAny_bind (wpAny_standAt (wpAny_bind (wpAny_mono (turn n s hI) (fun r s₁ h₁ => ?_) fun _ _ h' => h')))
    cases r with
    | none => exact wpAny_pure h₁
    | some v =>
      refine wpAny_bind (wpAny_mono h₁ (fun _ s₁' h₁' => ?_) fun _ _ h' => h')
      refine wpAny_bind (wpAny_mono h₁' (fun _ s₂ h₂ => wpAny_bind (wpAny_mono h₂ (fun ok s₃ h₃ => ?_) fun _ _ h' => h')) fun _ _ h' => h')
      cases ok with
      | false => exact wpAny_pure ⟨rfl, h₃⟩
      | true =>
        have h₃ : BodyC prog w A elt gs scope pos d acc env (fun s' => ∃ m, m < n ∧ I m s') (notedBy (model prog w) A env fun e s' => R (.error e) s') s₃ := h₃
        unfold BodyC at h₃
        rw [h1] at h₃
        exact wpAny_bind (wpAny_bind (wpAny_mono h₃ (fun x s₄ h₄ => wpAny_bind (wpAny_mono h₄ (fun _ s₅ h₅ => wpAny_pure (wpAny_pure ⟨rfl, h₅⟩)) fun _ _ h' => h')) fun _ _ h' => h'))
  | some c =>
    obtain ⟨t1, i1, ifs1, as1⟩ := c
    obtain ⟨ha, hs⟩ := hn _ h1
    have ha : as1 = 0 := ha
    subst ha
    rw [compTurnN_mid h0 h1]
    refine wpAny_bind (wpAny_standAt (wpAny_bind (wpAny_mono (turn n s hI) (fun r s₁ h₁ => ?_) fun _ _ h' => h')))
    cases r with
    | none => exact wpAny_pure h₁
    | some v =>
      refine wpAny_bind (wpAny_mono h₁ (fun _ s₁' h₁' => ?_) fun _ _ h' => h')
      refine wpAny_bind (wpAny_mono h₁' (fun _ s₂ h₂ => wpAny_bind (wpAny_mono h₂ (fun ok s₃ h₃ => ?_) fun _ _ h' => h')) fun _ _ h' => h')
      cases ok with
      | false => exact wpAny_pure ⟨rfl, h₃⟩
      | true =>
        have h₃ : BodyC prog w A elt gs scope pos d acc env (fun s' => ∃ m, m < n ∧ I m s') (notedBy (model prog w) A env fun e s' => R (.error e) s') s₃ := h₃
        unfold BodyC at h₃
        rw [h1] at h₃
        refine wpAny_bind (wpAny_mono h₃ (fun x s₄ h₄ => ?_) fun _ _ h' => h')
        refine wpAny_bind (wpAny_standAt (wpAny_bind (wpAny_of_eq (hs x) (wpAny_bind (wpAny_holding (wpAny_mono h₄ (fun it1 s₅ h₅ => ?_) fun _ _ h' => h'))))))
        refine wpAny_bind (wpAny_runOwn ?_)
        rw [Around.mark_none]
        refine codeAny_mono h₅ fun r s' hr => ?_
        cases r with
        | ok f =>
          first
            | exact wpAny_pure ⟨rfl, hr⟩
            | exact wpAny_bind (wpAny_pure (wpAny_pure ⟨rfl, hr⟩))
        | error e => exact hr.elim
theorem compStartN (hg : gs[d]? = some ⟨t0, i0, ifs0, 0⟩) (h0 : codeAny (model prog w) A (.compLoop (.ListComp elt gs scope pos) d it acc env) R s)
    (h : wpAny (model prog w) A (pyIter it) (fun it' s' => codeAny (model prog w) A (.compLoop (.ListComp elt gs scope pos) d it' acc env) R s') (notedBy (model prog w) A env fun x s' => R (.error x) s') s) :
    codeAny (model prog w) A (.compStart (.ListComp elt gs scope pos) d it acc env) R s := by
  refine codeAny_of_tree ?_
  show wpAny _ _ ((compStart (.ListComp elt gs scope pos) d it acc env).onRaise (fun x => do noteFrame x env; standAt theWindowsPlace)) _ _ s
  refine wpAny_notedAt ?_
  unfold compStart
  simp only [clausesOf, hg]
  show wpAny _ _ (ask >>= _) _ _ s
  refine wpAny_bind (wpAny_askSetting (wpAny_ite ?_))
  split
  · first
      | exact wpAny_bind (wpAny_pure (wpAny_pure (And.intro rfl h0)))
      | exact wpAny_pure (And.intro rfl h0)
  · first
      | exact wpAny_bind (wpAny_rule (wpAny_bind (wpAny_standAt (wpAny_bind (wpAny_mono h (fun it' s' h' => wpAny_pure (And.intro rfl h')) fun _ _ x => x)))))
      | (refine wpAny_bind (wpAny_rule ?_); show wpAny _ _ (standAt i0.pos >>= _) _ _ s; exact wpAny_bind (wpAny_standAt (wpAny_bind (wpAny_mono h (fun it' s' h' => wpAny_pure (And.intro rfl h')) fun _ _ x => x))))
end
/-! ### the levels -/
structure LvT where
  wi : TI
  g : TG
  tt : TT
  vs : List Nat
def tIn (te : TE) (D : Addr) : List LvT → L2.St → Hp → (Hp → Prop) → Prop
  | [], σ, H, Nx => te σ H fun y H7 => ∃ acc, H7 D = some (.lst acc) ∧ acc.length < sizeLine ∧ Nx (L2.upd H7 D (.lst (acc ++ [y])))
  | l :: ls, σ, H, Nx => l.wi σ H fun J1 H4 => ∃ W1 : Nat → Nat → Hp → Prop, (∃ m, W1 0 m H4) ∧ ∀ j k H, W1 j k H →
      (J1.stop j H ∧ Nx H) ∨ (J1.go j H ∧ ∃ Nx1 : Hp → Prop, (∀ H', Nx1 H' → ∃ k', k' < k ∧ W1 (j + 1) k' H') ∧ ∀ x H', J1.yld j H x H' → l.g x (wipe σ l.vs) H' fun σ3 H5 => wipe σ3 l.vs = wipe σ l.vs ∧ l.tt σ3 H5 fun b H6 =>
        if b = true then tIn te D ls σ3 H6 Nx1 else Nx1 H6)
def tLcN (wi : TI) (g : TG) (tt : TT) (te : TE) (vs : List Nat) (ls : List LvT) : TE := fun σ H Q => wi σ H fun J H1 => ∀ D, H1 D = none → ∃ W : Nat → Nat → Hp → Prop, (∃ m, W 0 m (L2.upd H1 D (.lst []))) ∧ ∀ i m H, W i m H →
  (J.stop i H ∧ Q (.ref D) H) ∨ (J.go i H ∧ ∃ Nx : Hp → Prop, (∀ H', Nx H' → ∃ m', m' < m ∧ W (i + 1) m' H') ∧ ∀ x H', J.yld i H x H' → g x (wipe σ vs) H' fun σ2 H2 => wipe σ2 vs = wipe σ vs ∧ tt σ2 H2 fun b H3 =>
    if b = true then tIn te D ls σ2 H3 Nx else Nx H3)
/-- the clauses behind, in the block's context; vs: the names of the clause before -/
inductive Lvs (X : Cx) : List Comprehension → List LvT → List Nat → Prop
  | nil {vs : List Nat} : Lvs X [] [] vs
  | cons {tg iter : Expr} {ifs : List Expr} {gs : List Comprehension} {wi : TI} {g : TG} {tt : TT} {vs1 : List Nat} {ls : List LvT} {vs : List Nat} (hi : PI X tg iter wi) (hg : PG X tg g) (ht : PTs X ifs tt) (hs : ∀ x, foldedSetIterable iter X.env x = pure x) (hv : ∀ i ∈ vs1, i ∈ vs)
    (r : Lvs X gs ls vs1) : Lvs X (⟨tg, iter, ifs, 0⟩ :: gs) (⟨wi, g, tt, vs1⟩ :: ls) vs
theorem Lvs.next {X : Cx} {gs : List Comprehension} {ls : List LvT} {vs : List Nat} (h : Lvs X gs ls vs) {all : List Comprehension} {d : Nat} (hd : all.drop (d + 1) = gs) : NextOk all d X.env := fun c hc => by
  have e : all[d + 1]? = gs[0]? := by rw [← hd, List.getElem?_drop, Nat.add_zero]
  rw [e] at hc
  cases h with
  | nil => cases hc
  | cons hi hg ht hs hv r =>
    cases hc
    exact ⟨rfl, hs⟩
section
variable {X : Cx}
theorem inner {elt : Expr} {te : TE} {all : List Comprehension} {scope : Scope} {pos : Pos} {D : Addr} (hc : X.calm = true) (hx : X.xe = fun _ _ => False) (he : PE X elt te) :
    ∀ {gs : List Comprehension} {ls : List LvT} {vs : List Nat}, Lvs X gs ls vs → ∀ (d : Nat), all.drop (d + 1) = gs → ∀ (pins : List (Addr × Obj)) (s : Shared) (σ : L2.St) (H : Hp) (Nx : Hp → Prop) (R' : Shared → Prop), Inv X pins σ H s → tIn te D ls σ H Nx →
      (∀ (s' : Shared) (H' : Hp) (σ' : L2.St), Inv X pins σ' H' s' → σ.length = σ'.length → (∀ (j : Nat) v, j ∉ vs → σ[j]? = some (some v) → σ'[j]? = some (some v)) → Nx H' → R' s') →
      ∀ (E : Value → Shared → Prop), BodyC X.prog X.w X.A elt all scope pos d (.ref D) X.env R' E s := by
  intro gs ls vs h
  induction h with
  | nil =>
    intro d hd pins s σ H Nx R' I hin fin E
    have h1 : all[d + 1]? = none := by
      rw [show all[d + 1]? = (all.drop (d + 1))[0]? by rw [List.getElem?_drop, Nat.add_zero], hd]
      rfl
    unfold BodyC
    rw [h1]
    have pe := he.run pins s σ H _ I hin
    rw [hx] at pe
    refine thnF pe fun z s10 ⟨yv, H10, I10, r10, acc, hD10, hz10, nx⟩ => ?_
    exact app_ok I10 hD10 hz10 r10 fun s11 I11 => fin _ _ σ I11 rfl (fun _ _ _ e => e) nx
  | @cons tg iter ifs gs wi1 g1 tt1 vs1 ls vs hi hg ht hs hv r ih =>
    intro d hd pins s σ H Nx R' I hin fin E
    have h1 : all[d + 1]? = some ⟨tg, iter, ifs, 0⟩ := by
      rw [show all[d + 1]? = (all.drop (d + 1))[0]? by rw [List.getElem?_drop, Nat.add_zero], hd]
      rfl
    have hd2 : all.drop (d + 1 + 1) = gs := by
      rw [← List.drop_drop, hd]
      rfl
    unfold BodyC
    rw [h1]
    have pi1 := hi.run pins s σ H _ I hin
    rw [hx] at pi1
    refine thnF pi1 fun xv s10 hx1 => thnF hx1 fun itv s11 h11 => ?_
    obtain ⟨it1, fp1, tn1, J1, H11, e1, I11, T1, st11, f11, W1, ⟨m1, w1⟩, turn1⟩ := h11
    subst e1
    have stat1 : ∀ {H' : Hp}, (∀ b ∈ fp1, H' b = none) → ∀ b ∈ fp1, FpOk X pins H' b := fun hn b hb => ⟨hn b hb, (f11 b hb).2⟩
    have loop1 : codeAny (model X.prog X.w) X.A (.compLoop (.ListComp elt all scope pos) (d + 1) (.ref it1) (.ref D) X.env) (fun r s' => match r with
        | .ok _ => R' s'
        | .error _ => False) s11 := by
      refine compLoopN h1 (r.next hd2) (fun k s' => ∃ j H', Inv X pins (wipe σ vs1) H' s' ∧ tn1 j s'.heap ∧ (∀ b ∈ fp1, H' b = none) ∧ W1 j k H') ?_ m1 ⟨0, H11, I11.weak (wipe_length _ _) (fun j v e => (wipe_some e).1), st11, fun b hb => (f11 b hb).1, w1⟩
      rintro k s12 ⟨j, H12, I12, st12, n12, w12⟩
      rcases turn1 j k H12 w12 with ⟨stop1, nx1⟩ | ⟨go1, Nx1, hNx1, step1⟩
      · refine thnF (T1.done X rfl rfl rfl hc j _ s12 (wipe σ vs1) H12 (fun _ _ => False) I12 (stat1 n12) st12 stop1) fun r s13 ⟨hr, I13⟩ => ?_
        subst hr
        exact fin _ _ (wipe σ vs1) I13 (wipe_length σ vs1).symm (fun j v hj e => by rw [wipe_out fun z => hj (hv j z)]; exact e) nx1
      · refine thnF (T1.item X rfl rfl rfl hc j _ s12 (wipe σ vs1) H12 (fun _ _ => False) I12 (stat1 n12) st12 go1) fun r s13 ⟨u1, hr, h13⟩ => ?_
        subst hr
        refine thnF h13 fun _ s14 ⟨x1, H14, I14, r14, y14, st14, n14⟩ => ?_
        have I14' := I14.pinned (stat1 n14) (T1.obj _ _ st14)
        have pg := hg.run _ s14 (wipe σ vs1) H14 x1 u1 _ I14' r14 (step1 x1 H14 y14)
        rw [hx] at pg
        refine thnF pg fun _ s15 ⟨σ15, H15, I15, hw15, q15⟩ => ?_
        have pt := ht.run _ s15 σ15 H15 _ I15 q15
        rw [hx] at pt
        refine thnF pt fun b1 s16 ⟨H16, I16, q16⟩ => ?_
        have fin1 : ∀ {s' : Shared} {H' : Hp} {σ' : L2.St}, Inv X (pins ++ pinsAt fp1 s14.heap) σ' H' s' → σ15.length = σ'.length → (∀ (j : Nat) v, j ∉ vs1 → σ15[j]? = some (some v) → σ'[j]? = some (some v)) → Nx1 H' →
            ∃ m, m < k ∧ ∃ j H', Inv X pins (wipe σ vs1) H' s' ∧ tn1 j s'.heap ∧ (∀ b ∈ fp1, H' b = none) ∧ W1 j m H' := fun {s' H' σ'} I' hl hk nx => by
          obtain ⟨m', hm, w'⟩ := hNx1 H' nx
          have pin' : ∀ b ∈ fp1, ∀ o, s14.heap.get? b = some o → s'.heap.get? b = some o ∧ H' b = none := fun b hb o e =>
            let z := I'.pin (b, o) (List.mem_append_right _ (List.mem_append_right _ (mem_pinsAt hb e)))
            ⟨z.1, z.2.1⟩
          refine ⟨m', hm, j + 1, H', I'.unpinned.weak (by rw [← hl, ← hw15, wipe_length]) (fun j v e => ?_), T1.keep _ _ _ st14 fun b hb o e => (pin' b hb o e).1, fun b hb => ?_, w'⟩
          · rw [← hw15] at e
            obtain ⟨a1, a2⟩ := wipe_some e
            exact hk j v a2 a1
          · obtain ⟨o, e, _⟩ := T1.obj _ _ st14 b hb
            exact (pin' b hb o e).2
        cases b1 with
        | false =>
          simp only [Bool.false_eq_true, if_false] at q16 ⊢
          exact fin1 I16 rfl (fun _ _ _ e => e) q16
        | true =>
          simp only [if_true] at q16 ⊢
          exact ih (d + 1) hd2 _ s16 σ15 H16 Nx1 _ I16 q16 (fun s' H' σ' I' hl hk nx => fin1 I' hl hk nx) _
    exact compStartN h1 loop1 (T1.self X.A 0 _ _ _ st11 loop1)
/-- a list comprehension of any number of clauses -/
theorem pe_lcN {elt tg iter : Expr} {ifs : List Expr} {gs : List Comprehension} {ls : List LvT} {scope : Scope} {own : List (Str × Nat)} {pos : Pos} {wi : TI} {g : TG} {tt : TT} {te : TE} (hc : X.calm = true) (hN : X.N.Nodup) (hi : PI X tg iter wi)
    (ok : BlkOk X.N X.env.scope scope own)
    (hb : ∀ (s : Shared) (H : Hp) (C : Addr) (cl : List (Str × Addr)) (fp : List Addr), PG (X.blk s H scope (compEnvC scope cl C X.env) fp) tg g ∧ PTs (X.blk s H scope (compEnvC scope cl C X.env) fp) ifs tt ∧
      Lvs (X.blk s H scope (compEnvC scope cl C X.env) fp) gs ls (own.map (·.2)) ∧ PE (X.blk s H scope (compEnvC scope cl C X.env) fp) elt te)
    (hs : ∀ x, foldedSetIterable iter X.env x = pure x := by intro _; rfl) : PE X (.ListComp elt (⟨tg, iter, ifs, 0⟩ :: gs) scope pos) (tLcN wi g tt te (own.map (·.2)) ls) := by
  refine ⟨fun pins s σ H Q I h => ?_⟩
  rw [eval_ListComp]
  have hfree : ∀ y ∈ scope.names, y.2 = .free → ∃ c, X.env.cells.lookup y.1 = some c := fun y hy e => (ok.free y hy e).elim (fun k => I.ok.has _ (.inl k)) (fun k => I.ok.has _ (.inr k))
  refine wpAny_comprehension_free (use := none) rfl hs (closure_ok hfree) ok.kind (fun y hy e => by rw [ok.uniq y hy, e]) (thn (hi.run pins s σ H _ I h) fun xv s1 hx => thn hx fun itv s2 h2 => ?_)
  obtain ⟨it, fp, tn, J, H2, rfl, I2, T, st2, f2, q⟩ := h2
  refine wpAny_newObj_type (newEnv_comp ?_) (by show 0 ≤ sizeLine; decide)
  generalize hD : s2.heap.objs.size = D
  obtain ⟨W, ⟨m0, w0⟩, turn⟩ := q D (I2.hok.fresh (Nat.le_of_eq hD))
  generalize hs3 : ({ s2 with heap := s2.heap.push { cls := .type "list", data := .seq ([] : List Value).toArray } } : Shared) = s3
  have I3 : Inv X pins σ (L2.upd H2 D (.lst [])) s3 := by
    rw [← hs3]
    refine I2.laid (t' := s2.toks) (fun b o e => Heap.get?_push_of_some _ e) (Nat.le_of_eq hD) ⟨Nat.zero_le _, [], 0, .nil, ?_⟩
    rw [← hD]
    exact Heap.get?_push_size _ rfl
  have h3 : s3.heap = s2.heap.push { cls := .type "list", data := .seq ([] : List Value).toArray } := by rw [← hs3]
  have f3 : ∀ b ∈ fp, FpOk X pins (L2.upd H2 D (.lst [])) b ∧ b < s3.heap.objs.size := fun b hb => by
    obtain ⟨o, e, _⟩ := T.obj _ _ st2 b hb
    have hlt := Heap.lt_size e
    refine ⟨⟨?_, (f2 b hb).2⟩, by rw [h3, Heap.size_push]; exact Nat.lt_succ_of_lt hlt⟩
    rw [upd_ne (by rw [← hD]; exact Nat.ne_of_lt hlt)]
    exact (f2 b hb).1
  have st3 : tn 0 s3.heap := T.keep _ _ _ st2 fun b _ o e => by rw [h3]; exact Heap.get?_push_of_some _ e
  have I4 := block_start I3 ok hN f3
  have pb := hb s3 (L2.upd H2 D (.lst [])) s3.heap.objs.size (cellsFrom (s3.heap.objs.size + 1) scope.names (cloFrom X.env.cells scope.names [])) fp
  show codeAny _ _ (.compStart (.ListComp elt (⟨tg, iter, ifs, 0⟩ :: gs) scope pos) 0 (.ref it) (.ref D) (compEnvC scope (cellsFrom (s3.heap.objs.size + 1) scope.names (cloFrom X.env.cells scope.names [])) s3.heap.objs.size X.env)) (compPost (model X.prog X.w) X.A X.xe none (EP X pins σ Q) (.ref D) s3.heap.objs.size) _
  have nfp : ∀ b ∈ fp, (L2.upd H2 D (.lst [])) b = none := fun b hb => (f3 b hb).1.1
  generalize hce : compEnvC scope (cellsFrom (s3.heap.objs.size + 1) scope.names (cloFrom X.env.cells scope.names [])) s3.heap.objs.size X.env = ce at I4 pb ⊢
  have cL : ce.locals = s3.heap.objs.size := by subst hce; rfl
  generalize hH3 : L2.upd H2 D (.lst []) = H3 at I3 I4 pb w0 nfp f3
  generalize hs4 : ({ s3 with heap := pushCells (s3.heap.push { cls := .type "dict", data := .dict #[] }) scope.names } : Shared) = s4 at I4 ⊢
  have st4 : tn 0 s4.heap := T.keep _ _ _ st3 fun b _ o e => by rw [← hs4]; exact pushCells_keeps _ _ _ _ (Heap.get?_push_of_some _ e)
  obtain ⟨pg, pt, pl, pe⟩ := pb
  have stat : ∀ {σ' : L2.St} {H' : Hp} {s' : Shared}, Inv (X.blk s3 H3 scope ce fp) [] σ' H' s' → (∀ b ∈ fp, H' b = none) → ∀ b ∈ fp, FpOk (X.blk s3 H3 scope ce fp) [] H' b := fun {σ' H' s'} I' hn b hb =>
    ⟨hn b hb, (I'.ok.exf b hb).1, I'.ok.exfs b hb, .inl hb, fun x c e => (I'.ok.exf b hb).2 x c e, fun p hp => absurd (show p ∈ ([] : List (Addr × Obj)) ++ [] from hp) (by simp)⟩
  have loop : codeAny (model X.prog X.w) X.A (.compLoop (.ListComp elt (⟨tg, iter, ifs, 0⟩ :: gs) scope pos) 0 (.ref it) (.ref D) ce) (compPost (model X.prog X.w) X.A X.xe none (EP X pins σ Q) (.ref D) s3.heap.objs.size) s4 := by
    refine compLoopN rfl (pl.next (d := 0) rfl) (fun n s' => ∃ i H', Inv (X.blk s3 H3 scope ce fp) [] (wipe σ (own.map (·.2))) H' s' ∧ tn i s'.heap ∧ (∀ b ∈ fp, H' b = none) ∧ W i n H') ?_ m0 ⟨0, H3, I4, st4, nfp, w0⟩
    rintro n s5 ⟨i, H5, I5, st5, n5, w5⟩
    rcases turn i n H5 w5 with ⟨stop, qq⟩ | ⟨go, Nx, hNx, step⟩
    · refine thnF (T.done (X.blk s3 H3 scope ce fp) rfl rfl rfl hc i [] s5 _ H5 (fun _ _ => False) I5 (stat I5 n5) st5 stop) fun r s6 ⟨hr, I6⟩ => ?_
      subst hr
      have I7 : Inv X pins σ H5 s6 := I3.call' (ch := fp) I6.os I6.base I6.hok I6.bare fun b hb => ⟨(f3 b hb).1.2.2.2.1, (f3 b hb).1.2.1, (f3 b hb).1.2.2.2.2.1, (f3 b hb).1.2.2.2.2.2⟩
      have nC : H5 s3.heap.objs.size = none := by
        have z : H5 ce.locals = none := I6.free
        rw [cL] at z
        exact z
      obtain ⟨m, hn, _⟩ := I6.loc
      have hn : s6.heap.Ns ce.locals m := hn
      rw [cL] at hn
      obtain ⟨f0, f1, f2', f3', f4, f5⟩ := I3.fpOk (Nat.le_refl _) nC
      refine ⟨m, hn, fun h'' sb => ?_⟩
      exact ⟨.ref D, H5, I7.turned (t' := s6.toks) (fun b o hb e => (sb.2 b hb).trans e) f0 f1 f3' f4 f5, rfl, qq⟩
    · refine thnF (T.item (X.blk s3 H3 scope ce fp) rfl rfl rfl hc i [] s5 _ H5 (fun _ _ => False) I5 (stat I5 n5) st5 go) fun r s6 ⟨u, hr, h6⟩ => ?_
      subst hr
      refine thnF h6 fun _ s7 ⟨x, H7, I7, r7, y7, st7, n7⟩ => ?_
      have I7' := I7.pinned (stat I7 n7) (T.obj _ _ st7)
      refine thnF (pg.run _ s7 _ H7 x u _ I7' r7 (step x H7 y7)) fun _ s8 ⟨σ8, H8, I8, hw8, q8⟩ => ?_
      refine thnF (pt.run _ s8 σ8 H8 _ I8 q8) fun b s9 ⟨H9, I9, q9⟩ => ?_
      have fin : ∀ {σ9 : L2.St} {s' : Shared} {H' : Hp}, Inv (X.blk s3 H3 scope ce fp) ([] ++ pinsAt fp s7.heap) σ9 H' s' → σ8.length = σ9.length → (∀ (j : Nat) v, j ∉ own.map (·.2) → σ8[j]? = some (some v) → σ9[j]? = some (some v)) → Nx H' →
          ∃ m, m < n ∧ ∃ i H', Inv (X.blk s3 H3 scope ce fp) [] (wipe σ (own.map (·.2))) H' s' ∧ tn i s'.heap ∧ (∀ b ∈ fp, H' b = none) ∧ W i m H' := fun {σ9 s' H'} I' hl hk nx => by
        obtain ⟨m', hm, w'⟩ := hNx H' nx
        have pin' : ∀ b ∈ fp, ∀ o, s7.heap.get? b = some o → s'.heap.get? b = some o ∧ H' b = none := fun b hb o e =>
          let z := I'.pin (b, o) (List.mem_append_right _ (List.mem_append_right _ (mem_pinsAt hb e)))
          ⟨z.1, z.2.1⟩
        refine ⟨m', hm, i + 1, H', (I'.unpinned (pins := [])).weak (by rw [← hl, ← hw8, wipe_length]) (fun j v e => ?_), T.keep _ _ _ st7 fun b hb o e => (pin' b hb o e).1, fun b hb => ?_, w'⟩
        · rw [← hw8] at e
          obtain ⟨a1, a2⟩ := wipe_some e
          exact hk j v a2 a1
        · obtain ⟨o, e, _⟩ := T.obj _ _ st7 b hb
          exact (pin' b hb o e).2
      cases b with
      | false =>
        simp only [Bool.false_eq_true, if_false] at q9 ⊢
        exact fin I9 rfl (fun _ _ _ e => e) q9
      | true =>
        simp only [if_true] at q9 ⊢
        exact inner (X := X.blk s3 H3 scope ce fp) hc rfl pe pl 0 rfl _ s9 σ8 H9 Nx _ I9 q9 (fun s' H' σ' I' hl hk nx => fin I' hl hk nx) _
  exact codeAny_compStart_list loop (T.self X.A 0 _ _ _ st4 loop)
end
/-! ### over tuples that stay: each level adds its blocks -/
section
variable {α : Type} {K : PySem.W.Frag} {te : TE} {ls : List LvT} {σ : L2.St} {H0 : Hp} {D : Addr} {G : Hp → V → α → Prop} {a : Addr} {xs : List V}
def LcAt (H0 : Hp) (D : Addr) (G : Hp → V → α → Prop) (ds : List α) (H : Hp) : Prop := H0 D = none ∧ Ex H0 H ∧ ∃ acc, H D = some (.lst acc) ∧ Paired (G H) acc ds
def RunsN (te : TE) (ls : List LvT) (σ : L2.St) (H0 : Hp) (D : Addr) (G : Hp → V → α → Prop) (blk : List α) : Prop := ∀ H ds (Nx : Hp → Prop), ds.length + blk.length ≤ 100000 → LcAt H0 D G ds H → (∀ H', LcAt H0 D G (ds ++ blk) H' → Nx H') → tIn te D ls σ H Nx
theorem runs_nil {d : α} (hG : ∀ H1 H2 y d, TrT K H1 H2 → G H1 y d → G H2 y d) (he : ∀ H (Q : VK), Ex H0 H → (∀ y H', Ex H H' → G H' y d → Q y H') → te σ H Q) : RunsN te [] σ H0 D G [d] := by
  intro H ds Nx hz ⟨n, e, acc, ha, pa⟩ k
  refine he H _ e fun y H' e' gy => ⟨acc, e' _ _ ha, Nat.lt_of_le_of_lt (by rw [Paired.length pa]; simp at hz; omega : acc.length ≤ 100000) (by decide), k _ ⟨n, Evl.Ex.mut (e.trans e') n, _, upd_same, ?_⟩⟩
  have u : TrT K H' (L2.upd H' D (.lst (acc ++ [y]))) := TrT.upd (e' _ _ ha)
  exact pd_app (L2.Paired.mapP pa fun _ _ q => hG _ _ _ _ u (hG _ _ _ _ (TrT.of e') q)) (.cons (hG _ _ _ _ u gy) .nil)
theorem flat_len {f : V → List α} : ∀ (xs : List V) (n : Nat), (((xs.take n).flatMap f).length) ≤ (xs.flatMap f).length
  | [], _ => by simp
  | x :: xs, 0 => by simp
  | x :: xs, n + 1 => by
    have := flat_len (f := f) xs n
    rw [List.take_succ_cons, List.flatMap_cons, List.flatMap_cons, List.length_append, List.length_append]
    omega
theorem take_flat {f : V → List α} {x : V} {n : Nat} (h : xs[n]? = some x) : (xs.take (n + 1)).flatMap f = (xs.take n).flatMap f ++ f x := by
  rw [List.take_succ, h, List.flatMap_append]
  simp
/-- the turns of one level -/
theorem turns_tup {i : Nat} {vs : List Nat} {ds : List α} {H : Hp} {Nx : Hp → Prop} (q : ∀ H, SqT K H a xs) (blk : V → List α) (hs : ∀ x ∈ xs, RunsN te ls ((wipe σ vs).set i (some x)) H0 D G (blk x)) (hw : ∀ x, wipe ((wipe σ vs).set i (some x)) vs = wipe σ vs)
    (hz : ds.length + (xs.flatMap blk).length ≤ 100000) (h0 : LcAt H0 D G ds H) (k : ∀ H', LcAt H0 D G (ds ++ xs.flatMap blk) H' → Nx H') :
    ∃ W1 : Nat → Nat → Hp → Prop, (∃ m, W1 0 m H) ∧ ∀ j n H, W1 j n H → ((Itt K a).stop j H ∧ Nx H) ∨ ((Itt K a).go j H ∧ ∃ Nx1 : Hp → Prop, (∀ H', Nx1 H' → ∃ k', k' < n ∧ W1 (j + 1) k' H') ∧ ∀ x H', (Itt K a).yld j H x H' →
      gName i x (wipe σ vs) H' fun σ3 H5 => wipe σ3 vs = wipe σ vs ∧ tYes σ3 H5 fun b H6 => if b = true then tIn te D ls σ3 H6 Nx1 else Nx1 H6) := by
  refine ⟨fun j n H => n = xs.length - j ∧ j ≤ xs.length ∧ LcAt H0 D G (ds ++ (xs.take j).flatMap blk) H, ⟨xs.length, rfl, Nat.zero_le _, by simpa using h0⟩, ?_⟩
  rintro j n H1 ⟨rfl, hj, h1⟩
  by_cases lt : j < xs.length
  · have hx := List.getElem?_eq_getElem lt
    refine .inr ⟨⟨xs, _, q H1, hx⟩, LcAt H0 D G (ds ++ (xs.take (j + 1)).flatMap blk), fun H' h' => ⟨xs.length - (j + 1), by omega, rfl, lt, h'⟩, fun x H' y => ?_⟩
    obtain ⟨rfl, hy⟩ := y
    have ex := hy xs (q _)
    refine ⟨hw x, ?_⟩
    show if true = true then tIn te D ls ((wipe σ vs).set i (some x)) H' (LcAt H0 D G (ds ++ (xs.take (j + 1)).flatMap blk)) else LcAt H0 D G (ds ++ (xs.take (j + 1)).flatMap blk) H'
    rw [if_pos rfl]
    have l1 := flat_len (f := blk) xs (j + 1)
    rw [take_flat ex, List.length_append] at l1
    refine hs x (List.mem_of_getElem? ex) _ _ _ (by rw [List.length_append]; omega) h1 fun H2 h2 => ?_
    rw [take_flat ex, ← List.append_assoc]
    exact h2
  · have e : j = xs.length := by omega
    subst e
    rw [List.take_length] at h1
    exact .inl ⟨⟨xs, q _, Nat.le_refl _⟩, k _ h1⟩
theorem runs_tup {i : Nat} {vs : List Nat} (q : ∀ H, SqT K H a xs) (blk : V → List α) (hs : ∀ x ∈ xs, RunsN te ls ((wipe σ vs).set i (some x)) H0 D G (blk x)) (hw : ∀ x, wipe ((wipe σ vs).set i (some x)) vs = wipe σ vs) :
    RunsN te (⟨iTup K (tC (.ref a)), gName i, tYes, vs⟩ :: ls) σ H0 D G (xs.flatMap blk) := by
  intro H ds Nx hz h0 k
  exact ⟨a, rfl, ⟨xs, q H⟩, turns_tup q blk hs hw hz h0 k⟩
theorem g_lcNT {i : Nat} {vs : List Nat} {H : Hp} {Q : VK} (q : ∀ H, SqT K H a xs) (blk : V → List α) (hs : ∀ D, ∀ x ∈ xs, RunsN te ls ((wipe σ vs).set i (some x)) H D G (blk x)) (hw : ∀ x, wipe ((wipe σ vs).set i (some x)) vs = wipe σ vs)
    (hz : (xs.flatMap blk).length ≤ 100000) (k : ∀ D H' acc, H D = none → Ex H H' → H' D = some (.lst acc) → Paired (G H') acc (xs.flatMap blk) → Q (.ref D) H') : tLcN (iTup K (tC (.ref a))) (gName i) tYes te vs ls σ H Q := by
  refine ⟨a, rfl, ⟨xs, q H⟩, fun D hD => ?_⟩
  exact turns_tup (H0 := H) (D := D) (ds := []) q blk (hs D) hw (by simpa using hz) ⟨hD, Evl.Ex.new hD, [], upd_same, .nil⟩ fun H' ⟨n, e, acc, ha, pa⟩ => k D H' acc n e ha pa
end
/-! ### how many different texts -/
def cntS (xs : List Str) : Nat → Nat
  | 0 => 0
  | i + 1 => if ((xs.take i).any fun y => y == xs.getD i Str.empty) = true then cntS xs i else cntS xs i + 1
theorem cntS_le (xs : List Str) : ∀ i, cntS xs i ≤ i
  | 0 => Nat.le_refl _
  | i + 1 => by
    have := cntS_le xs i
    unfold cntS
    split <;> omega
theorem cntS_nodup {xs : List Str} (h : xs.Nodup) : ∀ i, i ≤ xs.length → cntS xs i = i
  | 0, _ => rfl
  | i + 1, hi => by
    have ih := cntS_nodup h i (Nat.le_of_lt hi)
    have lt : i < xs.length := hi
    have eg : xs.getD i Str.empty = xs[i] := by rw [List.getD_eq_getElem?_getD, List.getElem?_eq_getElem lt] <;> rfl
    have no : ((xs.take i).any fun y => y == xs.getD i Str.empty) = false := by
      rw [eg]
      refine Bool.eq_false_iff.mpr fun c => ?_
      obtain ⟨y, hy, ey⟩ := List.any_eq_true.mp c
      obtain ⟨j, hj, e⟩ := List.mem_take_iff_getElem.mp hy
      have e2 : y = xs[i] := eq_of_beq ey
      exact List.pairwise_iff_getElem.mp h j i (by omega) lt (by omega) (by rw [e, e2])
    unfold cntS
    rw [no, if_neg (by decide), ih]
section
variable {P : Program} {w : World} {A : Around} {R : Result → Shared → Prop} {E : Value → Shared → Prop} {s : Shared}
abbrev TxSet (P : Program) (w : World) (h : Heap) (S : Addr) (xs : List Str) (i : Nat) : Prop := h.SetOf (PySem.strKind P w) S (fun z => (xs.take i).any fun y => y == z) (cntS xs i)
theorem TxSet.keep {h h' : Heap} {S : Addr} {xs : List Str} {i : Nat} (q : TxSet P w h S xs i) (k : ∀ o, h.get? S = some o → h'.get? S = some o) : TxSet P w h' S xs i := by
  obtain ⟨o, es, ep, t, ho, r⟩ := q
  exact ⟨o, es, ep, t, k o ho, r⟩
theorem take_any (xs : List Str) (i : Nat) (hi : i < xs.length) (z : Str) : ((xs.take (i + 1)).any fun y => y == z) = (((xs.take i).any fun y => y == z) || decide (z = xs.getD i Str.empty)) := by
  have eg : xs.getD i Str.empty = xs[i] := by rw [List.getD_eq_getElem?_getD, List.getElem?_eq_getElem hi] <;> rfl
  rw [List.take_add_one, List.getElem?_eq_getElem hi, eg]
  show (xs.take i ++ [xs[i]]).any _ = _
  rw [List.any_append]
  congr 1
  show (xs[i] == z || false) = decide (z = xs[i])
  rw [Bool.or_false]
  by_cases e : z = xs[i]
  · rw [e, decide_eq_true rfl]
    exact beq_self_eq_true _
  · rw [decide_eq_false e]
    exact beq_eq_false_iff_ne.mpr fun q => e q.symm
/-- the set takes the texts in one by one -/
theorem set_takes {I : Addr} {fp wr : List Addr} {G : Array GenState → Array GenState → Prop} {Pv : Nat → Value → Prop} {St : Nat → Shared → Prop} {xs : List Str} {S : Addr}
    (W : WalksS P w A.in1 I fp wr G xs.length Pv St) (out : S ∉ fp) (few : xs.length + 1 < scanBound) (val : ∀ i v, Pv i v → ∃ t, v = .str (xs.getD i Str.empty) t) :
    ∀ (left i : Nat) (s : Shared), xs.length - i = left → i ≤ xs.length → St i s → TxSet P w s.heap S xs i →
      (∀ s', Moved (S :: wr) G s s' → TxSet P w s'.heap S xs xs.length → R (.ok (.ret .none)) s') → codeAny (model P w) A (.builtin "set.update.loop" ⟨[.ref S, .ref I], []⟩) R s := by
  have out' : S ∉ wr := fun q => out (W.sub _ q)
  have sub : ∀ b ∈ wr, b ∈ S :: wr := fun b q => List.mem_cons_of_mem _ q
  intro left
  induction left with
  | zero =>
    intro i s e hi st q fin
    obtain rfl : i = xs.length := by omega
    refine codeAny_builtin F.entry_set_update_loop ?_
    rw [Around.under_plainId F.plain_set_update_loop _]
    show wpAny _ A.in1 (do let z ← pyNext (.ref I); _) _ _ s
    refine wpAny_bind (W.done s _ _ st fun s1 mv => ?_)
    show wpAny _ A.in1 (ret Value.none) _ _ s1
    exact wpAny_pure (fin s1 (mv.mono sub) (q.keep fun o e => mv.heap S o out' e))
  | succ left ih =>
    intro i s e hi st q fin
    have lt : i < xs.length := by omega
    refine codeAny_builtin F.entry_set_update_loop ?_
    rw [Around.under_plainId F.plain_set_update_loop _]
    show wpAny _ A.in1 (do let z ← pyNext (.ref I); _) _ _ s
    refine wpAny_bind (W.item i s _ _ lt st fun v s1 hv st1 mv => ?_)
    obtain ⟨t, rfl⟩ := val i v hv
    have q1 : TxSet P w s1.heap S xs i := q.keep fun o e => mv.heap S o out' e
    show wpAny _ A.in1 (do let z ← holding [Value.str (xs.getD i Str.empty) t] (setAdd S (.str (xs.getD i Str.empty) t)); _) _ _ s1
    refine wpAny_bind (wpAny_holding ?_)
    unfold setAdd
    refine wpAny_holding (wpAny_bind ((PySem.strKind P w).pyHash (k := xs.getD i Str.empty) (strKind_is _ _ _ _) ?_))
    refine wpAny_setAddHashed_of (knd := PySem.strKind P w) (s := { s1 with toks := s1.toks + 1 }) (strKind_is _ _ _ _) rfl q1 (by have := cntS_le xs i; omega) fun h2 sb q2 => ?_
    have q3 : TxSet P w h2 S xs (i + 1) := PyProof.Rows.SetOf_congr q2 (fun z => (take_any xs i lt z).symm) rfl
    refine wpAny_pure ⟨plainId_quiet F.plain_set_update_loop _, ih (i + 1) _ (by omega) lt (W.frame _ s1 _ _ st1 (Nat.le_succ _) fun b hb o e => ?_) q3 fun s2 mv2 q4 => ?_⟩
    · exact (sb.2 b fun z : b = S => out (by rw [← z]; exact hb)).trans e
    · refine fin s2 (Moved.trans W.gtrans ((mv.mono sub).then_heap (Nat.le_succ _) fun b o hb e => ?_) mv2) q4
      exact (sb.2 b fun z : b = S => hb (by rw [z]; exact List.mem_cons_self)).trans e
end
section
variable {P : Program} {w : World} {A : Around} {E : Value → Shared → Prop} {s : Shared}
/-- a set of nothing, just laid -/
abbrev bareS (led : Bool) : Obj := { cls := .type "set", dict := none, data := .set #[] 0 (.fresh 0 0 led) }
set_option maxHeartbeats 8000000 in
/-- set(a tuple of texts) -/
theorem call_setTx {l : Addr} {its : Array Value} {xs : List Str} {Q : Value → Shared → Prop} (calm : A.handled = none) (tup : s.heap.IsTuple l its) (are : PyProof.Rows.StrsAre its.toList xs) (few : xs.length + 1 < scanBound)
    (k : ∀ (h' : Heap) (tk : Nat), TxSet P w h' s.heap.objs.size xs xs.length → (∀ b o, b < s.heap.objs.size → s.heap.get? b = some o → h'.get? b = some o) → Q (.ref s.heap.objs.size) { s with heap := h', toks := tk }) :
    wpAny (model P w) A (call (.type "set") [.ref l]) Q E s := by
  obtain ⟨mc, ml, hmro⟩ := F.called_set.mro
  have hmk := F.called_set.made; have hsb := F.called_set.sub
  refine wpAny_call (codeAny_of_tree ?_)
  show wpAny _ _ (callAny (.type "set") ⟨[.ref l], []⟩) _ _ _
  refine wpAny_pure ⟨Code.quiet_builtin _ (by decide +kernel), codeAny_builtin F.entry_type_call ?_⟩
  rw [Around.under_plain (weight_type_call_type "set" [.ref l] []) rfl]
  have n1 := F.called_set.notType; have n2 := F.called_set.canCreate; have n3 := F.typeCall_set_1 (.ref l)
  repeat (any_goals (first | assumption | wp_step))
  refine codeAny_mono (code_set_new_1 (.ref l) (E := E) (Q₁ := fun v z => ∃ led : Bool, v = .ref s.heap.objs.size ∧ z = { s with heap := s.heap.push (bareS led) }) fun led => ⟨led, rfl, rfl⟩) fun r s1 hr => ?_
  cases r with
  | error e => exact hr
  | ok fl =>
    cases fl with
    | ret v =>
      obtain ⟨led, rfl, rfl⟩ := hr
      have new : (s.heap.push (bareS led)).get? s.heap.objs.size = some (bareS led) := Heap.get?_push_size _ rfl
      have isS : Shared.TypeIs { s with heap := s.heap.push (bareS led) } (.ref s.heap.objs.size) "set" := ⟨_, new, rfl⟩
      have m1 := F.called_set.init.lookup; have m2 := F.called_set.init.bind (.ref s.heap.objs.size)
      repeat (any_goals (first | assumption | wp_step))
      refine codeAny_mono (codeAny_call_builtin (R := wants (fun r z => r = .none ∧ ∃ h' tk, z = { s with heap := h', toks := tk } ∧ TxSet P w h' s.heap.objs.size xs xs.length ∧ ∀ b o, b < s.heap.objs.size → s.heap.get? b = some o → h'.get? b = some o) E)
        F.called_set.init.plain F.entry_set_init (check_set_init_1 isS ?_)) fun r2 s2 hr2 => ?_
      · obtain ⟨⟨tc, td, tdat, tsl⟩, ho, hc, tn, hd⟩ := tup
        simp only at hc hd
        subst hc; subst hd
        have up : (s.heap.push (bareS led)).get? l = some { cls := .type "tuple", dict := td, data := .seq its tn, slots := tsl } := Heap.get?_push_of_some _ ho
        have u1 := F.sub_tuple_set; have u2 := F.sub_tuple_frozenset
        have u3 : (Value.type "tuple" == Value.type "dict") = false := by decide
        have isT : (s.heap.push (bareS led)).IsTuple l its := ⟨_, up, rfl, tn, rfl⟩
        unfold Builtin.«set.__init__» noKeywords Builtin.Frozenset.updateFrom
        generalize hPI : pyIter = PI
        wp_walk
        subst hPI
        refine wpAny_pyIter_tuple isT (wpAny_bind (wpAny_runValue ?_))
        have low : l < s.heap.objs.size := Heap.lt_size ho
        have calm3 : A.in1.in1.in1.handled = none := by simp [calm]
        have apart : l ≠ (s.heap.push (bareS led)).objs.size := by rw [Heap.size_push]; exact Nat.ne_of_lt (Nat.lt_succ_of_lt low)
        have out : s.heap.objs.size ∉ [(s.heap.push (bareS led)).objs.size, l] := by
          rw [Heap.size_push]
          intro z
          rcases List.mem_cons.mp z with z | z
          · exact absurd z (Nat.ne_of_lt (Nat.lt_succ_self _))
          · exact absurd (List.mem_singleton.mp z) (Nat.ne_of_gt low)
        have sz : xs.length = its.size := by rw [← StrsAre.len_eq are, Array.length_toList]
        have W := (Walks.tuple (prog := P) (w := w) calm3 _ l apart its).toS
        rw [← sz] at W
        refine set_takes W out few (fun i v hv => SS.strs_at are i v (by rw [Array.getElem?_toList]; exact hv)) (xs.length - 0) 0 _ (by omega) (Nat.zero_le _) ⟨⟨_, Heap.get?_push_size _ rfl, rfl, rfl⟩, isT.push _⟩ ?start ?fin
        case start => exact PyProof.Rows.SetOf_congr ((PyProof.Rows.setObjOf_fresh (knd := PySem.strKind P w) led).setOf (Heap.get?_push_of_some _ new) (by unfold scanBound; omega)) (fun _ => rfl) rfl
        case fin =>
          rintro ⟨h', g', d', tk', os'⟩ mv q
          have e1 : g' = s.gens := mv.gens
          have e2 : d' = s.drawn := mv.drawn
          have e3 : os' = s.os := mv.os
          subst e1; subst e2; subst e3
          show wpAny _ _ (do let z ← ret Value.none; _) _ _ _
          refine wpAny_pure (wpAny_pure ⟨rfl, h', tk', rfl, q, fun b o hb e => ?_⟩)
          refine mv.heap b o (fun z => ?_) (Heap.get?_push_of_some _ (Heap.get?_push_of_some _ e))
          rcases List.mem_cons.mp z with z | z
          · exact absurd z (Nat.ne_of_lt hb)
          · rw [List.mem_singleton.mp z, Heap.size_push] at hb
            exact absurd hb (Nat.not_lt.mpr (Nat.le_succ _))
      · cases r2 with
        | error e => exact hr2
        | ok fl2 =>
          cases fl2 with
          | ret r =>
            obtain ⟨rfl, h', tk, rfl, q1, q2⟩ := hr2
            repeat (any_goals (first | assumption | wp_step))
            exact k _ _ q1 q2
          | _ => exact hr2.elim
    | _ => exact hr.elim
end
/-- len(set(x)), x a tuple of texts -/
def tLenTx (K : PySem.W.Frag) (ta : TE) : TE := fun σ H Q => ta σ H fun x H1 => ∃ (l : Addr) (xs : List Str), x = .ref l ∧ SqT K H1 l (xs.map V.str) ∧ xs.length ≤ 1000 ∧ Q (.int (cntS xs xs.length : Nat)) H1
theorem pe_lenTx {X : Cx} {a : Expr} {ta : TE} {p p2 q pos : Pos} (hc : X.calm = true) (hg : Gl X "len") (hm : X.mg "len" = none) (hg2 : Gl X "set") (hm2 : X.mg "set" = none) (ha : PE X a ta)
    (na : starEach [a] X.env = (false, eval a X.env) :: starEach [] X.env := by rfl) : PE X (.Call (.Name "len" p) [.Call (.Name "set" p2) [a] [] q] [] pos) (tLenTx X.K ta) := by
  refine ⟨fun pins s σ H Q I h => ?_⟩
  refine Call_ (ld_blt I hg hm boot_len (PyProof.Rows.callWith_builtin1 (PyProof.Rows.args_cons ?_ rfl) rfl rfl))
  refine Call_ (ld_blt I hg2 hm2 boot_set (PyProof.Rows.callWith_type1 (PyProof.Rows.args_cons (thn (ha.run pins s σ H _ I h) fun v s1 ⟨x, H1, I1, r1, l, xs, e1, hq, few, qq⟩ => PyProof.Rows.args_nil ?_) na) na rfl))
  subst e1
  obtain rfl : v = Value.ref l := r1
  obtain ⟨its, r, pl, hz⟩ := I1.tuple hq
  refine call_setTx (P := X.prog) (w := X.w) (xs := xs) (I1.ok.hd hc) pl (by simpa using L2.strsAre_of r) (by unfold scanBound; omega) fun h' tk hS hk => PyProof.Rows.args_nil ?_
  have := cntS_le xs xs.length
  obtain ⟨o, es, ep, t, ho, hex, hd, _, _, _, hf, hn⟩ := hS
  have I2 : Inv X pins σ H1 { s1 with heap := h', toks := tk } := I1.kept fun b o e => hk b o (Heap.lt_size e) e
  exact call_len_set ho hex hd hf (by rw [hn]; omega) ⟨.int (cntS xs xs.length : Nat), H1, I2.tok _, ⟨_, by rw [hn]⟩, qq⟩
/-! ### {k: v for x in ..}, k a tuple of ints and texts -/
/-- one turn's pair joins the dict at D: what follows -/
def PutT (D : Addr) (Nx : Hp → Prop) (y : V) : VK := fun z G =>
  ∃ (kvs : List (List Key × V)) (k : List Key) (b : Addr), y = .ref b ∧ G b = some (.tup (k.map kV)) ∧ G D = some (.dT kvs) ∧ kvs.length < sizeLine ∧ Nx (upd G D (.dT (putK kvs k z)))
def TurnDc (g : TG) (tt : TT) (tk tv : TE) (vs : List Nat) (σ : L2.St) (D : Addr) (Nx : Hp → Prop) : V → Hp → Prop := fun x G =>
  g x (wipe σ vs) G fun σ2 G2 => wipe σ2 vs = wipe σ vs ∧
    tt σ2 G2 fun b G3 => if b = true then tk σ2 G3 fun y G4 => tv σ2 G4 (PutT D Nx y) else Nx G3
def LoopDc (g : TG) (tt : TT) (tk tv : TE) (vs : List Nat) (σ : L2.St) (D : Addr) (J : L2.It) (H1 : Hp) (Qd : Hp → Prop) : Prop :=
  ∃ W : Nat → Nat → Hp → Prop, (∃ m, W 0 m (upd H1 D (.dT []))) ∧
    ∀ i m G, W i m G → (J.stop i G ∧ Qd G) ∨
      (J.go i G ∧ ∃ Nx : Hp → Prop, (∀ G', Nx G' → ∃ m', m' < m ∧ W (i + 1) m' G') ∧
        ∀ x G', J.yld i G x G' → TurnDc g tt tk tv vs σ D Nx x G')
def tDcT (wi : TI) (g : TG) (tt : TT) (tk tv : TE) (vs : List Nat) : TE := fun σ H Q =>
  wi σ H fun J H1 => ∀ D, H1 D = none → LoopDc g tt tk tv vs σ D J H1 (Q (.ref D))
section
variable {X : Cx}
theorem put_dict {pins : List (Addr × Obj)} {σ : L2.St} {G : Hp} {s : Shared} {D : Addr} {Nx : Hp → Prop} {y z : V} {u r : Value} {E : Value → Shared → Prop} {Q : Unit → Shared → Prop} (hu : X.A.units + 1 < cLine)
    (I : Inv X pins σ G s) (ry : RelV y u) (rz : RelV z r) (j : PutT D Nx y z G) (k : ∀ s' G', Inv X pins σ G' s' → Nx G' → Q () s') : wpAny (model X.prog X.w) X.A (dictSet D u r) Q E s := by
  obtain ⟨kvs, key, b, rfl, hb, hD, few, nx⟩ := j
  obtain rfl : u = Value.ref b := ry
  obtain ⟨hz, hs, xs, rel, dd⟩ := dt_of I.hok hD
  have lx : xs.length ≤ sizeLine := by rw [← Paired.length rel]; exact hz
  have lp : (putK kvs key z).length ≤ sizeLine := by have := length_putK kvs key z; omega
  refine wpAny_dictSet_heap (hsz := lx) (Nat.lt_of_succ_lt hu : X.A.units < cLine) (key_of I.hok hb) dd fun h' dd' sb => k _ _ ?_ nx
  obtain ⟨q, es, ep, hq, h2, h3, h4, _, h5⟩ := dd'
  refine d_write I (by rw [hD]; exact True.intro) sb ⟨q, hq⟩ ⟨lp, hs, _, (rel.put key hb rz).keeps fun c ys ec => ?_, q, es, ep, hq, h2, h3, h4, h5⟩
  rw [upd_ne (ne_of ec hD fun z => nomatch z)]
  exact ec
variable {kx vx tg iter : Expr} {ifs : List Expr} {scope : Scope} {own : List (PySem.Str × Nat)} {pos pos' : Pos} {wi : TI} {g : TG} {tt : TT} {tk tv : TE}
theorem dcT_core {pins : List (Addr × Obj)} {s : Shared} {σ : L2.St} {H : Hp} {Q : VK} {use : Option (Value → Sem Unit)} {Qf : Value → Shared → Prop}
    (hc : X.calm = true) (hN : X.N.Nodup) (I : Inv X pins σ H s) (hu : X.A.units + 1 < cLine)
    (hi : PI X tg iter wi) (ok : BlkOk X.N X.env.scope scope own)
    (hg : ∀ (s : Shared) (H : Hp) (C : Addr) (cl : List (PySem.Str × Addr)) (fp : List Addr),
      PG (X.blk s H scope (compEnvC scope cl C X.env) fp) tg g)
    (ht : ∀ (s : Shared) (H : Hp) (C : Addr) (cl : List (PySem.Str × Addr)) (fp : List Addr),
      PTs (X.blk s H scope (compEnvC scope cl C X.env) fp) ifs tt)
    (hk : ∀ (s : Shared) (H : Hp) (C : Addr) (cl : List (PySem.Str × Addr)) (fp : List Addr),
      PE (X.blk s H scope (compEnvC scope cl C X.env) fp) kx tk)
    (he : ∀ (s : Shared) (H : Hp) (C : Addr) (cl : List (PySem.Str × Addr)) (fp : List Addr),
      PE (X.blk s H scope (compEnvC scope cl C X.env) fp) vx tv)
    (hs : ∀ x, foldedSetIterable iter X.env x = pure x)
    (h : tDcT wi g tt tk tv (own.map (·.2)) σ H Q)
    (fin : ∀ D C s' m G, Inv X pins σ G s' → Q (.ref D) G → s'.heap.Ns C m → FpOk X pins G C →
      compPost (model X.prog X.w) X.A X.xe use Qf (.ref D) C (.ok .next) s') :
    wpAny (model X.prog X.w) X.A (comprehension (.DictComp kx vx [⟨tg, iter, ifs, 0⟩] scope pos) scope X.env pos'
      newDict false (eval iter X.env) use) Qf X.xe s := by
  have cellsOk : ∀ y ∈ scope.names, y.2 = .free → ∃ c, X.env.cells.lookup y.1 = some c := fun y hy e =>
    (ok.free y hy e).elim (fun k => I.ok.has _ (.inl k)) (fun k => I.ok.has _ (.inr k))
  refine wpAny_comprehension_free (use := use) rfl hs (closure_ok cellsOk) ok.kind (fun y hy e => by rw [ok.uniq y hy, e]) ?_
  refine thn (hi.run pins s σ H _ I h) fun xv s1 hx => thn hx ?_
  rintro itv s2 ⟨it, fp, tn, J, H2, rfl, I2, T, st2, f2, q⟩
  refine wpAny_newObj_type (newEnv_comp ?_)
  generalize hD : s2.heap.objs.size = D
  have free2 : H2 D = none := I2.hok.fresh (Nat.le_of_eq hD)
  obtain ⟨W, ⟨m0, w0⟩, turn⟩ := q D free2
  have I3 : Inv X pins σ (upd H2 D (.dT [])) { s2 with heap := s2.heap.push { cls := .type "dict", data := .dict #[] } } := by
    refine I2.laid (t' := s2.toks) (fun b o e => Heap.get?_push_of_some _ e) (Nat.le_of_eq hD) ?_
    subst hD
    exact dt_empty s2.heap I2.big
  generalize hs3 : ({ s2 with heap := s2.heap.push { cls := .type "dict", data := .dict #[] } } : Shared) = s3 at I3
  have h3 : s3.heap = s2.heap.push { cls := .type "dict", data := .dict #[] } := by rw [← hs3]
  have older : ∀ b ∈ fp, b < s2.heap.objs.size := fun b hb =>
    have ⟨_, e, _⟩ := T.obj _ _ st2 b hb
    Heap.lt_size e
  have f3 : ∀ b ∈ fp, FpOk X pins (upd H2 D (.dT [])) b ∧ b < s3.heap.objs.size := by
    intro b hb
    have lt := older b hb
    have ne : b ≠ D := by rw [← hD]; exact Nat.ne_of_lt lt
    refine ⟨⟨(upd_ne ne).trans (f2 b hb).1, (f2 b hb).2⟩, ?_⟩
    rw [h3, Heap.size_push]
    exact Nat.lt_succ_of_lt lt
  have st3 : tn 0 s3.heap := T.keep _ _ _ st2 fun b _ o e => by
    rw [h3]
    exact Heap.get?_push_of_some _ e
  have I4 := block_start I3 ok hN f3
  have pg := hg s3 (upd H2 D (.dT [])) s3.heap.objs.size (cellsFrom (s3.heap.objs.size + 1) scope.names (cloFrom X.env.cells scope.names [])) fp
  have pt := ht s3 (upd H2 D (.dT [])) s3.heap.objs.size (cellsFrom (s3.heap.objs.size + 1) scope.names (cloFrom X.env.cells scope.names [])) fp
  have pk := hk s3 (upd H2 D (.dT [])) s3.heap.objs.size (cellsFrom (s3.heap.objs.size + 1) scope.names (cloFrom X.env.cells scope.names [])) fp
  have pe := he s3 (upd H2 D (.dT [])) s3.heap.objs.size (cellsFrom (s3.heap.objs.size + 1) scope.names (cloFrom X.env.cells scope.names [])) fp
  show codeAny _ _ (.compStart (.DictComp kx vx [⟨tg, iter, ifs, 0⟩] scope pos) 0 (.ref it) (.ref D)
      (compEnvC scope (cellsFrom (s3.heap.objs.size + 1) scope.names (cloFrom X.env.cells scope.names [])) s3.heap.objs.size X.env))
    (compPost (model X.prog X.w) X.A X.xe use Qf (.ref D) s3.heap.objs.size)
    { s3 with heap := pushCells (s3.heap.push { cls := .type "dict", data := .dict #[] }) scope.names }
  have out3 : ∀ b ∈ fp, (upd H2 D (.dT [])) b = none := fun b hb => (f3 b hb).1.1
  generalize hce : compEnvC scope (cellsFrom (s3.heap.objs.size + 1) scope.names (cloFrom X.env.cells scope.names [])) s3.heap.objs.size X.env = ce at I4 pg pt pk pe ⊢
  have locC : ce.locals = s3.heap.objs.size := by subst hce; rfl
  generalize hH3 : upd H2 D (.dT []) = H3 at I3 I4 pg pt pk pe w0 out3 f3
  generalize hs4 : ({ s3 with heap := pushCells (s3.heap.push { cls := .type "dict", data := .dict #[] }) scope.names } : Shared) = s4 at I4 ⊢
  have st4 : tn 0 s4.heap := T.keep _ _ _ st3 fun b _ o e => by
    rw [← hs4]
    exact pushCells_keeps _ _ _ _ (Heap.get?_push_of_some _ e)
  have itOk : ∀ {σ' : L2.St} {G : Hp} {s' : Shared}, Inv (X.blk s3 H3 scope ce fp) [] σ' G s' → (∀ b ∈ fp, G b = none) →
      ∀ b ∈ fp, FpOk (X.blk s3 H3 scope ce fp) [] G b := fun {σ' G s'} I' out b hb =>
    ⟨out b hb, (I'.ok.exf b hb).1, I'.ok.exfs b hb, .inl hb, fun x c e => (I'.ok.exf b hb).2 x c e, fun p hp => nomatch (show p ∈ ([] : List (Addr × Obj)) from hp)⟩
  have loop : codeAny (model X.prog X.w) X.A (.compLoop (.DictComp kx vx [⟨tg, iter, ifs, 0⟩] scope pos) 0 (.ref it) (.ref D) ce)
      (compPost (model X.prog X.w) X.A X.xe use Qf (.ref D) s3.heap.objs.size) s4 := by
    refine compLoop_anyD (fun n s' => ∃ i G, Inv (X.blk s3 H3 scope ce fp) [] (wipe σ (own.map (·.2))) G s' ∧
      tn i s'.heap ∧ (∀ b ∈ fp, G b = none) ∧ W i n G) ?_ m0 ⟨0, H3, I4, st4, out3, w0⟩
    rintro n s5 ⟨i, G5, I5, st5, out5, w5⟩
    obtain ⟨stop, qq⟩ | ⟨go, Nx, hNx, step⟩ := turn i n G5 w5
    · have td := T.done (X.blk s3 H3 scope ce fp) rfl rfl rfl hc i [] s5 _ G5 (fun _ _ => False) I5 (itOk I5 out5) st5 stop
      refine thnF td ?_
      rintro r s6 ⟨rfl, I6⟩
      have I7 : Inv X pins σ G5 s6 := I3.call' (ch := fp) I6.os I6.base I6.hok I6.bare fun b hb =>
        have z := (f3 b hb).1
        ⟨z.2.2.2.1, z.2.1, z.2.2.2.2.1, z.2.2.2.2.2⟩
      have out : G5 s3.heap.objs.size = none := locC ▸ I6.free
      obtain ⟨m, hn, -⟩ := I6.loc
      have hn2 : s6.heap.Ns s3.heap.objs.size m := locC ▸ hn
      exact fin D s3.heap.objs.size s6 m G5 I7 qq hn2 (I3.fpOk (Nat.le_refl _) out)
    · have ti := T.item (X.blk s3 H3 scope ce fp) rfl rfl rfl hc i [] s5 _ G5 (fun _ _ => False) I5 (itOk I5 out5) st5 go
      refine thnF ti ?_
      rintro r s6 ⟨u, rfl, h6⟩
      refine thnF h6 ?_
      rintro _ s7 ⟨x, G7, I7, r7, y7, st7, out7⟩
      have I7' := I7.pinned (itOk I7 out7) (T.obj _ _ st7)
      refine thnF (pg.run _ s7 _ G7 x u _ I7' r7 (step x G7 y7)) ?_
      rintro _ s8 ⟨σ8, G8, I8, hw8, q8⟩
      refine thnF (pt.run _ s8 σ8 G8 _ I8 q8) ?_
      rintro b s9 ⟨G9, I9, q9⟩
      have again : ∀ {s' : Shared} {G : Hp}, Inv (X.blk s3 H3 scope ce fp) ([] ++ pinsAt fp s7.heap) σ8 G s' → Nx G →
          ∃ m, m < n ∧ ∃ i G, Inv (X.blk s3 H3 scope ce fp) [] (wipe σ (own.map (·.2))) G s' ∧ tn i s'.heap ∧ (∀ b ∈ fp, G b = none) ∧ W i m G := by
        intro s' G I' nx
        obtain ⟨m', lt, w'⟩ := hNx G nx
        have pinned : ∀ b ∈ fp, ∀ o, s7.heap.get? b = some o → s'.heap.get? b = some o ∧ G b = none := fun b hb o e =>
          have z := I'.pin (b, o) (List.mem_append_right _ (List.mem_append_right _ (mem_pinsAt hb e)))
          ⟨z.1, z.2.1⟩
        have hl : (wipe σ (own.map (·.2))).length = σ8.length := by rw [← hw8, wipe_length]
        refine ⟨m', lt, i + 1, G, (I'.unpinned (pins := [])).weak hl ?_, T.keep _ _ _ st7 fun b hb o e => (pinned b hb o e).1, ?_, w'⟩
        · intro j v e
          rw [← hw8] at e
          exact (wipe_some e).1
        · intro b hb
          obtain ⟨o, e, -⟩ := T.obj _ _ st7 b hb
          exact (pinned b hb o e).2
      cases b with
      | false =>
        rw [if_neg (by decide)] at q9 ⊢
        exact again I9 q9
      | true =>
        rw [if_pos rfl] at q9 ⊢
        refine thnF (pk.run _ s9 σ8 G9 _ I9 q9) ?_
        rintro zk s10 ⟨yk, G10, I10, r10, q10⟩
        refine thnF (pe.run _ s10 σ8 G10 _ I10 q10) ?_
        rintro zv s11 ⟨yv, G11, I11, r11, q11⟩
        exact put_dict (X := X.blk s3 H3 scope ce fp) hu I11 r10 r11 q11 fun s' G' I' nx => again I' nx
  exact codeAny_compStart_dict loop (T.self X.A 0 _ _ _ st4 loop)
theorem pe_dcT (hc : X.calm = true) (hN : X.N.Nodup) (hu : X.A.units + 1 < cLine) (hi : PI X tg iter wi) (ok : BlkOk X.N X.env.scope scope own)
    (hg : ∀ (s : Shared) (H : Hp) (C : Addr) (cl : List (PySem.Str × Addr)) (fp : List Addr),
      PG (X.blk s H scope (compEnvC scope cl C X.env) fp) tg g)
    (ht : ∀ (s : Shared) (H : Hp) (C : Addr) (cl : List (PySem.Str × Addr)) (fp : List Addr),
      PTs (X.blk s H scope (compEnvC scope cl C X.env) fp) ifs tt)
    (hk : ∀ (s : Shared) (H : Hp) (C : Addr) (cl : List (PySem.Str × Addr)) (fp : List Addr),
      PE (X.blk s H scope (compEnvC scope cl C X.env) fp) kx tk)
    (he : ∀ (s : Shared) (H : Hp) (C : Addr) (cl : List (PySem.Str × Addr)) (fp : List Addr),
      PE (X.blk s H scope (compEnvC scope cl C X.env) fp) vx tv)
    (hs : ∀ x, foldedSetIterable iter X.env x = pure x := by intro _; rfl) :
    PE X (.DictComp kx vx [⟨tg, iter, ifs, 0⟩] scope pos) (tDcT wi g tt tk tv (own.map (·.2))) := by
  refine ⟨fun pins s σ H Q I h => ?_⟩
  rw [arm_eval_DictComp]
  refine dcT_core hc hN I hu hi ok hg ht hk he hs h ?_
  intro D C s' m G I' q hn f
  refine ⟨m, hn, fun h'' sb => ?_⟩
  obtain ⟨f0, f1, f2, f3, f4, f5⟩ := f
  exact ⟨.ref D, G, I'.turned (t' := s'.toks) (fun b o hb e => (sb.2 b hb).trans e) f0 f1 f3 f4 f5, rfl, q⟩
end
/-! ### max(d.values()), d with tuple keys -/
section
variable {P : Program} {w : World}
theorem meets_vals {d : Addr} (hd : (d == sysModules) = false) : MeetsIn P w (Builtin.«dict.values» ⟨[.ref d], []⟩) (fun _ R s => s.TypeIs (.ref d) "dict" ∧
    R (.ok (.ret (.ref s.heap.objs.size))) { s with heap := s.heap.push (DSub.viewOb "dict_values" d) }) :=
  .of_wp fun A R s ⟨ht, h⟩ => by
    unfold Builtin.«dict.values»
    refine wpAny_bind ?_
    unfold Builtin.Dict.noArgs
    refine wpAny_bind (wpAny_notOrdered_dict ht ?_)
    show wpAny _ _ (pure d) _ _ s
    refine wpAny_pure ?_
    show wpAny _ _ (do let z ← Builtin.Dict.showsAll d; _) _ _ s
    unfold Builtin.Dict.showsAll
    rw [if_neg (by rw [hd]; exact Bool.false_ne_true)]
    refine wpAny_bind (wpAny_pure ?_)
    exact wpAny_bind (wpAny_newObj_type (wpAny_pure ⟨_, rfl, h⟩))
end
def tMaxVT (td : TE) : TE := fun σ H Q => td σ H fun x H1 => ∃ (a : Addr) (kvs : List (List Key × V)) (ns : List Int), x = .ref a ∧ H1 a = some (.dT kvs) ∧ kvs.map (·.2) = ns.map V.int ∧ 0 < ns.length ∧ ∀ m, m ∈ ns → (∀ j ∈ ns, j ≤ m) → Q (.int m) H1
theorem pe_maxVT {X : Cx} {o : Expr} {p pos apos mpos : Pos} {td : TE} (hc : X.calm = true) (hg : Gl X "max") (hm : X.mg "max" = none) (hd : PE X o td) (hbase : attributeBase o "values" X.env (eval o X.env) = eval o X.env := by rfl) (hline : (apos.endLine == mpos.line) = true := by rfl)
    (hse : starEach [Expr.Call (.Attribute o "values" apos) [] [] mpos] X.env = [(false, eval (Expr.Call (.Attribute o "values" apos) [] [] mpos) X.env)] := by rfl) :
    PE X (.Call (.Name "max" p) [.Call (.Attribute o "values" apos) [] [] mpos] [] pos) (tMaxVT td) := by
  refine ⟨fun pins s σ H Q I h => ?_⟩
  refine wpAny_Call_Name_kw (ld_blt I hg hm (u := .builtin "max") (by first | rfl | decide +kernel) ?_ (by first | decide +kernel | decide) (by first | decide +kernel | decide))
  rw [hse]
  refine PySem.callWith_builtin1 (wpAny_Call_method0_late hbase hline (thn (hd.run pins s σ H _ I h) fun v s1 ⟨x, H1, I1, r1, a, kvs, ns, ex, ha, hv, hne, q⟩ => ?_))
  subst ex
  obtain rfl : v = Value.ref a := r1
  obtain ⟨hz, hsys, xs, rel, ob, es, ep, ho, hx, hdat, hes, his, hnd⟩ := dt_of I1.hok ha
  have isD : s1.TypeIs (.ref a) "dict" := ⟨ob, ho, hx.1⟩
  refine ⟨"dict", "dict.values", F.plainAttrs_dict, F.slot_dict_values, F.type_dict_values, isD, fun b e => ?_, Calls.callWith_builtin rfl (PySem.evalArgs_none ?_)⟩
  · cases e
    exact ⟨ob, ho, hx.2.1⟩
  refine call_meetsIn F.slot_dict_values isD F.entry_dict_values (F.args_dict_values_1 _) (meets_vals hsys) ⟨isD, ?_⟩
  have l1 : kvs.length = ns.length := by
    have e := congrArg List.length hv
    rwa [List.length_map, List.length_map] at e
  have l2 : es.size = ns.length := by
    have e1 : es.size = xs.length := size_of_entries hes
    have e2 : kvs.length = xs.length := Paired.length rel
    omega
  have val : ∀ (i : Nat) (e : DictEntry), es[i]? = some e → ∃ t, e.val = Value.int (ns.getD i 0) t := fun i e he => by
    have li : i < es.size := (Array.getElem?_eq_some_iff.mp he).1
    have lk : i < kvs.length := by omega
    have ln : i < ns.length := by omega
    obtain ⟨b, hb, _, _, rb⟩ := paired_get rel (List.getElem?_eq_getElem lk)
    have e1 := entry_at hes i
    rw [hb, he] at e1
    have e2 : e.val = b.2.2 := by rw [Option.some.inj e1] <;> rfl
    have e3 : kvs[i].2 = V.int ns[i] := by
      have z : (kvs.map (·.2))[i]? = (ns.map V.int)[i]? := by rw [hv]
      rw [List.getElem?_map, List.getElem?_map, List.getElem?_eq_getElem lk, List.getElem?_eq_getElem ln] at z
      exact Option.some.inj z
    rw [e3] at rb
    obtain ⟨t, e4⟩ := rb
    exact ⟨t, by rw [e2, e4, List.getD_eq_getElem?_getD, List.getElem?_eq_getElem ln] <;> rfl⟩
  generalize hh : s1.heap.push (DSub.viewOb "dict_values" a) = h2
  have k1 : ∀ b u, s1.heap.get? b = some u → h2.get? b = some u := fun b u e => by rw [← hh]; exact Heap.get?_push_of_some _ e
  have hv2 : h2.get? s1.heap.objs.size = some (DSub.viewOb "dict_values" a) := by rw [← hh]; exact Heap.get?_push_size _ rfl
  have low : a < h2.objs.size := Heap.lt_size (k1 _ _ ho)
  refine call_max_walk (DSub.iter_vals (s := { s1 with heap := h2 }) hv2 (k1 _ _ ho) hdat ?_)
  refine ⟨h2.objs.size, [h2.objs.size, a], [h2.objs.size], es.size, fun i v => ∃ t, v = .int (ns.getD i 0) t, _, fun i j => decide (ns.getD i 0 > ns.getD j 0), rfl, DSub.walksVal (a := a) (show X.A.in1.handled = none from I.ok.hd hc) (Nat.ne_of_lt low) hdat val, ⟨Heap.get?_push_size _ rfl, Heap.get?_push_of_some _ (k1 _ _ ho)⟩, fun b hb => ?_, by omega,
    CmpOf.ints_gt (fun i => ns.getD i 0) (fun i v z => z), fun v h' tk hP hk => ?_⟩
  · show b < (h2.push _).objs.size
    rw [Heap.size_push]
    rcases List.mem_cons.mp hb with z | z
    · rw [z]
      exact Nat.lt_succ_self _
    · rw [List.mem_singleton.mp z]
      exact Nat.lt_succ_of_lt low
  · obtain ⟨t, rfl⟩ := hP
    obtain ⟨b1, b2⟩ := argBest_gt (fun i => ns.getD i 0) (es.size - 1)
    have l3 : es.size - 1 < ns.length := by omega
    have b1' : argBest (fun i j => decide (ns.getD i 0 > ns.getD j 0)) (es.size - 1) < ns.length := Nat.lt_of_le_of_lt b1 l3
    refine ⟨.int _, H1, I1.kept (t' := tk) fun b u e => hk b u (fun z => ?_) (Heap.get?_push_of_some _ (k1 b u e)), ⟨t, rfl⟩, q _ ?_ fun j hj => ?_⟩
    · have e1 : b = h2.objs.size := List.mem_singleton.mp z
      have e2 := Heap.lt_size (k1 b u e)
      rw [e1] at e2
      exact absurd e2 (Nat.lt_irrefl _)
    · rw [List.getD_eq_getElem?_getD, List.getElem?_eq_getElem b1']
      exact List.getElem_mem b1'
    · obtain ⟨i, hi, e⟩ := List.mem_iff_getElem.mp hj
      have e2 : ns.getD i 0 = j := by rw [List.getD_eq_getElem?_getD, List.getElem?_eq_getElem hi, ← e] <;> rfl
      rw [← e2]
      exact b2 i (by omega)
/-! ### over a tuple of keys; over the keys themselves -/
section
variable {α : Type} {K : PySem.W.Frag} {H : Hp} {Q : VK} {g : TG} {tt : TT} {te tk tv : TE} {vs : List Nat} {σ : St} {a : Addr} {xs : List V} {ds : List α} {key : α → List Key} {val : α → V}
/-- the tuple that is the key of y -/
def KeyAt (key : α → List Key) (H : Hp) (v : V) (y : α) : Prop := ∃ b, v = .ref b ∧ H b = some (.tup ((key y).map kV))
theorem KeyAt.ex {H H' : Hp} {v : V} {y : α} (e : Ex H H') (h : KeyAt key H v y) : KeyAt key H' v y := by
  obtain ⟨b, q, h⟩ := h
  exact ⟨b, q, e _ _ h⟩
theorem KeyAt.upd {H : Hp} {D : Addr} {o o' : HO} {v : V} {y : α} (hD : H D = some o) (n : ∀ zs, o ≠ .tup zs) (h : KeyAt key H v y) : KeyAt key (L2.upd H D o') v y := by
  obtain ⟨b, q, h⟩ := h
  refine ⟨b, q, ?_⟩
  rw [upd_ne fun z => by rw [z, hD] at h; exact n _ (Option.some.inj h)]
  exact h
theorem put_next {i : Nat} {d : α} (nd : (ds.map key).Nodup) (e : ds[i]? = some d) : putK ((ds.take i).map fun y => (key y, val y)) (key d) (val d) = (ds.take (i + 1)).map fun y => (key y, val y) := by
  have lt : i < ds.length := (List.getElem?_eq_some_iff.mp e).1
  have ed : ds[i] = d := (List.getElem?_eq_some_iff.mp e).2
  have no : (((ds.take i).map fun y => (key y, val y)).any fun kv => decide (kv.1 = key d)) = false := by
    refine Bool.eq_false_iff.mpr fun c => ?_
    obtain ⟨p, hp, ep⟩ := List.any_eq_true.mp c
    obtain ⟨y, hy, rfl⟩ := List.mem_map.mp hp
    obtain ⟨j, hj, ej⟩ := List.mem_take_iff_getElem.mp hy
    have q := List.pairwise_iff_getElem.mp nd j i (by rw [List.length_map]; omega) (by rw [List.length_map]; exact lt) (by omega)
    rw [List.getElem_map, List.getElem_map, ej, ed] at q
    exact q (of_decide_eq_true ep)
  unfold putK
  rw [no, if_neg (by decide), List.take_add_one, e, List.map_append]
  rfl
theorem g_dcTupI {tl : TE} (h : tl σ H fun x H1 => tDcT (iTup K fun _ H2 R => R x H2) g tt tk tv vs σ H1 Q) : tDcT (iTup K tl) g tt tk tv vs σ H Q := h
theorem g_dcTup (hx : SqT K H a xs) (hp : Paired (KeyAt key H) xs ds) (nd : (ds.map key).Nodup) (few : ds.length ≤ 1000)
    (step : ∀ d b H', Ex H H' → H' b = some (.tup ((key d).map kV)) → ∀ (R : Hp → Prop) (T : V → VK), (∀ H4, Ex H' H4 → T (.ref b) (val d) H4) →
      g (.ref b) (wipe σ vs) H' fun σ2 H2 => wipe σ2 vs = wipe σ vs ∧ tt σ2 H2 fun c H3 => if c = true then tk σ2 H3 fun y H4 => tv σ2 H4 (T y) else R H3)
    (last : ∀ D H', H D = none → Ex H H' → H' D = some (.dT (ds.map fun y => (key y, val y))) → Q (.ref D) H') :
    tDcT (iTup K fun _ H2 R => R (.ref a) H2) g tt tk tv vs σ H Q := by
  refine ⟨a, rfl, ⟨xs, hx⟩, fun D hD => ?_⟩
  have len := Paired.length hp
  refine ⟨fun i m H' => m = xs.length - i ∧ i ≤ xs.length ∧ Ex H H' ∧ H' D = some (.dT ((ds.take i).map fun y => (key y, val y))), ⟨xs.length, rfl, Nat.zero_le _, Evl.Ex.new hD, upd_same⟩, ?_⟩
  rintro i m H1 ⟨rfl, hi, e1, h1⟩
  by_cases lt : i < xs.length
  · have hxi := List.getElem?_eq_getElem lt
    refine .inr ⟨⟨xs, _, Evl.ex_t e1 hx, hxi⟩, fun H' => Ex H H' ∧ H' D = some (.dT ((ds.take (i + 1)).map fun y => (key y, val y))), fun H' h' => ⟨xs.length - (i + 1), by omega, rfl, lt, h'⟩, fun x H' y => ?_⟩
    obtain ⟨rfl, hy⟩ := y
    have ex := hy xs (Evl.ex_t e1 hx)
    obtain ⟨d, hd, kd⟩ := pd_get hp ex
    obtain ⟨b, rfl, hb⟩ := kd.ex e1
    refine step d b _ e1 hb _ (PutT D _) fun H4 e4 => ⟨_, key d, b, rfl, e4 _ _ hb, e4 _ _ h1, ?_, Evl.Ex.mut (e1.trans e4) hD, ?_⟩
    · rw [List.length_map]
      exact Nat.lt_of_le_of_lt (Nat.le_trans (List.length_take_le _ _) (Nat.le_trans (by omega) few)) (by decide)
    · rw [upd_same, put_next nd hd]
  · have e : i = xs.length := by omega
    subst e
    rw [len, List.take_length] at h1
    exact .inl ⟨⟨xs, Evl.ex_t e1 hx, Nat.le_refl _⟩, last D H1 hD e1 h1⟩
theorem g_lcKT {k : Nat} {d : Addr} (hk : σ[k]? = some (some (.ref d))) (hd : H d = some (.dT (ds.map fun y => (key y, val y)))) (few : ds.length ≤ 1000) (f : α → Bool)
    (step : ∀ y b od H', Ex (L2.upd H d (.frz od (.dT (ds.map fun y => (key y, val y))))) H' → y ∈ ds → H' b = some (.tup ((key y).map kV)) → ∀ (R : Hp → Prop) (S : VK), (f y = false → ∀ H3, Ex H' H3 → R H3) → (f y = true → ∀ H3, Ex H' H3 → S (.ref b) H3) →
      g (.ref b) (wipe σ vs) H' fun σ2 H2 => wipe σ2 vs = wipe σ vs ∧ tt σ2 H2 fun c H3 => if c = true then te σ2 H3 S else R H3)
    (last : ∀ D H' acc, Fr d H H' → H' D = some (.lst acc) → Paired (KeyAt key H') acc (ds.filter f) → Q (.ref D) H') :
    tLockE (tLc (iKeys (tVar k)) g tt te vs) σ H Q := by
  refine ⟨d, _, hd, True.intro, fun od => ?_⟩
  generalize hH1 : L2.upd H d (.frz od (.dT (ds.map fun y => (key y, val y)))) = H1
  have h1d : H1 d = some (.frz od (.dT (ds.map fun y => (key y, val y)))) := by rw [← hH1]; exact upd_same
  have fr1 : Fr d H H1 := by rw [← hH1]; exact Fr.upd
  refine ⟨.ref d, hk, d, od, rfl, .inr ⟨_, h1d, fun D hD => ?_⟩⟩
  have nD : D ≠ d := (ne_of_none h1d hD).symm
  have len : (ds.map fun y => (key y, val y)).length = ds.length := List.length_map _
  refine ⟨fun i m H' => m = ds.length - i ∧ i ≤ ds.length ∧ Ex H1 H' ∧ ∃ acc, H' D = some (.lst acc) ∧ Paired (KeyAt key H') acc ((ds.take i).filter f), ⟨ds.length, rfl, Nat.zero_le _, Evl.Ex.new hD, [], upd_same, .nil⟩, ?_⟩
  rintro i m H2 ⟨rfl, hi, e2, acc, ha, pa⟩
  by_cases lt : i < ds.length
  · have hy := List.getElem?_eq_getElem lt
    refine .inr ⟨⟨e2 _ _ h1d, by rw [len]; exact lt⟩, fun H' => Ex H1 H' ∧ ∃ acc, H' D = some (.lst acc) ∧ Paired (KeyAt key H') acc ((ds.take (i + 1)).filter f), fun H' h' => ⟨ds.length - (i + 1), by omega, rfl, lt, h'⟩, fun x H' yl => ?_⟩
    obtain ⟨rfl, kk, vv, b, hkv, rfl, hb⟩ := yl
    rw [List.getElem?_map, hy] at hkv
    obtain ⟨rfl, _⟩ := Prod.mk.inj (Option.some.inj hkv)
    have la : acc.length ≤ 1000 := by
      rw [Paired.length pa]
      exact Nat.le_trans (List.length_filter_le _ _) (Nat.le_trans (List.length_take_le _ _) (by omega))
    refine step ds[i] b od _ (by rw [hH1]; exact e2) (List.getElem_mem lt) hb _ _ (fun hf H3 e3 => ⟨e2.trans e3, acc, e3 _ _ ha, ?_⟩) fun hf H3 e3 => ⟨acc, e3 _ _ ha, Nat.lt_of_le_of_lt la (by decide), Evl.Ex.mut (e2.trans e3) hD, _, upd_same, ?_⟩
    · rw [take_filt hy, hf, if_neg (by decide), List.append_nil]
      exact L2.Paired.mapP pa fun _ _ q => q.ex e3
    · rw [take_filt hy, hf, if_pos rfl]
      exact pd_app (L2.Paired.mapP pa fun _ _ q => (q.ex e3).upd (e3 _ _ ha) fun _ z => nomatch z) (.cons (KeyAt.upd (e3 _ _ ha) (fun _ z => nomatch z) ⟨b, rfl, e3 _ _ hb⟩) .nil)
  · have e : i = ds.length := by omega
    subst e
    rw [List.take_length] at pa
    refine .inl ⟨⟨e2 _ _ h1d, by rw [len]; exact Nat.le_refl _⟩, e2 _ _ h1d, last D _ acc (fr1.trans ((Fr.of e2).trans Fr.upd)) ?_ (L2.Paired.mapP pa fun _ _ q => q.upd (e2 _ _ h1d) fun _ z => nomatch z)⟩
    rw [upd_ne nD]
    exact ha
end
section
variable {α : Type} {ds : List α} {key : α → List Key} {val : α → V}
theorem val_at : ∀ {ds : List α} {y : α}, (ds.map key).Nodup → y ∈ ds → valV (ds.map fun y => (key y, val y)) (key y) = some (val y)
  | d :: ds, y, nd, m => by
    rw [List.map_cons, List.nodup_cons] at nd
    rw [List.map_cons]
    by_cases e : key d = key y
    · rw [valV_pos e]
      rcases List.mem_cons.mp m with rfl | m
      · rfl
      · exact absurd (List.mem_map.mpr ⟨y, m, e.symm⟩) nd.1
    · rw [valV_neg e]
      rcases List.mem_cons.mp m with rfl | m
      · exact absurd rfl e
      · exact val_at nd.2 m
end
/-! ### what stands stays, lists apart -/
def TrO (H H' : Hp) : Prop := ∀ a o, H a = some o → (∀ xs, o ≠ .lst xs) → H' a = some o
theorem TrO.of {H H' : Hp} (e : Ex H H') : TrO H H' := fun a o h _ => e a o h
theorem TrO.upd {H : Hp} {r : Addr} {xs ys : List V} (hr : H r = some (.lst xs)) : TrO H (L2.upd H r (.lst ys)) := fun a o h n => by
  rw [upd_ne fun z => by rw [z, hr] at h; exact n xs (Option.some.inj h).symm]
  exact h
theorem runs_nilO {α : Type} {te : TE} {σ : L2.St} {H0 : Hp} {D : Addr} {G : Hp → V → α → Prop} {d : α} (hG : ∀ H1 H2 y d, TrO H1 H2 → G H1 y d → G H2 y d) (he : ∀ H (Q : VK), Ex H0 H → (∀ y H', Ex H H' → G H' y d → Q y H') → te σ H Q) : RunsN te [] σ H0 D G [d] := by
  intro H ds Nx hz ⟨n, e, acc, ha, pa⟩ k
  refine he H _ e fun y H' e' gy => ⟨acc, e' _ _ ha, Nat.lt_of_le_of_lt (by rw [Paired.length pa]; simp at hz; omega : acc.length ≤ 100000) (by decide), k _ ⟨n, Evl.Ex.mut (e.trans e') n, _, upd_same, ?_⟩⟩
  have u : TrO H' (L2.upd H' D (.lst (acc ++ [y]))) := TrO.upd (e' _ _ ha)
  exact pd_app (L2.Paired.mapP pa fun _ _ q => hG _ _ _ _ u (hG _ _ _ _ (TrO.of e') q)) (.cons (hG _ _ _ _ u gy) .nil)
/-- the scope of a comprehension's block -/
def cScope (e : Expr) : Scope := match e with
  | .ListComp _ _ sc _ => sc
  | _ => default
/-! ### a comprehension whose test draws from the row: some of the items stay -/
section
variable {α : Type} {K : PySem.W.Frag} {H : Hp} {Q : VK} {g : TG} {tt : TT} {te : TE} {vs : List Nat} {σ : St} {a : Addr} {ds : List α} {v : α → V} {ρ : Rw}
theorem g_lcRow (R0 : Row K H ρ) (ha : H a = some (.lst (ds.map v))) (ne : a ≠ ρ.1) (few : ds.length ≤ 1000)
    (step : ∀ d H', Fr ρ.1 H H' → Row K H' ρ → d ∈ ds → ∀ (R : Hp → Prop) (S : VK), (∀ H3, Fr ρ.1 H' H3 → Row K H3 ρ → R H3) → (∀ H3, Fr ρ.1 H' H3 → Row K H3 ρ → S (v d) H3) →
      g (v d) (wipe σ vs) H' fun σ2 H2 => wipe σ2 vs = wipe σ vs ∧ tt σ2 H2 fun b H3 => if b = true then te σ2 H3 S else R H3)
    (last : ∀ D H' sel, H D = none → Fr ρ.1 H H' → Row K H' ρ → H' D = some (.lst (sel.map v)) → List.Sublist sel ds → Q (.ref D) H') : tLcL K (.ref a) g tt te vs σ H Q := by
  refine ⟨a, rfl, ⟨_, SqL.of ha⟩, fun D hD => ?_⟩
  obtain ⟨xs0, q0⟩ := R0.lst
  have nD : D ≠ ρ.1 := (ne_of_none q0 hD).symm
  have len : (ds.map v).length = ds.length := List.length_map _
  refine ⟨fun i m H' => m = ds.length - i ∧ i ≤ ds.length ∧ Fr ρ.1 H H' ∧ Row K H' ρ ∧ ∃ sel, H' D = some (.lst (sel.map v)) ∧ List.Sublist sel (ds.take i), ⟨ds.length, rfl, Nat.zero_le _, Fr.of (Evl.Ex.new hD), Row.mut R0 R0 Fr.refl hD, [], upd_same, List.nil_sublist _⟩, ?_⟩
  rintro i m H1 ⟨rfl, hi, f1, R1, sel, h1, s1⟩
  have la := f1 _ _ ne ha
  by_cases lt : i < ds.length
  · have hy := List.getElem?_eq_getElem lt
    have hx : (ds.map v)[i]? = some (v ds[i]) := by rw [List.getElem?_map, hy] <;> rfl
    have st : ds.take (i + 1) = ds.take i ++ [ds[i]] := by rw [List.take_add_one, hy] <;> rfl
    have lsel : sel.length ≤ 1000 := Nat.le_trans s1.length_le (Nat.le_trans (List.length_take_le _ _) (by omega))
    refine .inr ⟨⟨_, _, SqL.of la, hx⟩, fun H' => Fr ρ.1 H H' ∧ Row K H' ρ ∧ ∃ sel, H' D = some (.lst (sel.map v)) ∧ List.Sublist sel (ds.take (i + 1)), fun H' h' => ⟨ds.length - (i + 1), by omega, rfl, lt, h'⟩, fun x H' y => ?_⟩
    obtain ⟨rfl, hy2⟩ := y
    have ex := hy2 _ (SqL.of la)
    rw [hx] at ex
    obtain rfl := Option.some.inj ex
    refine step ds[i] _ f1 R1 (List.getElem_mem lt) _ _ (fun H3 f3 R3 => ⟨f1.trans f3, R3, sel, f3 _ _ nD h1, by rw [st]; exact s1.trans (List.sublist_append_left _ _)⟩) fun H3 f3 R3 => ⟨_, f3 _ _ nD h1, ?_, Fr.mut (f1.trans f3) hD, Row.mut R0 R3 (f1.trans f3) hD, sel ++ [ds[i]], ?_, by rw [st]; exact s1.append_right _⟩
    · rw [List.length_map]
      exact Nat.lt_of_le_of_lt lsel (by decide)
    · rw [upd_same, List.map_append]
      rfl
  · have e : i = ds.length := by omega
    subst e
    rw [List.take_length] at s1
    exact .inl ⟨⟨_, SqL.of la, by rw [len]; exact Nat.le_refl _⟩, last D H1 sel hD f1 R1 h1 s1⟩
end
/-! ### a list of data against [] -/
section
variable {K : PySem.W.Frag} {H : Hp} {Q : VK} {a b : Addr} {xs : List V} {ds : List PyData}
theorem g_eqNilD (h1 : H a = some (.lst xs)) (hp : DpAll K H xs ds) (hs : ∀ d ∈ ds, sh 5 d) (h2 : H b = some (.lst [])) (k : Q (.bl ds.isEmpty) H) : rEqD K (.ref a) (.ref b) H Q := by
  refine ⟨.list ds, .list [], .lst (SqL.of h1) hp, .lst (SqL.of h2) .nil, sh_ok (n := 6) (sh_list hs) (by omega), sh_ok (n := 1) (sh_list (by simp)) (by omega), ?_⟩
  rw [show PyData.eqv (.list ds) (.list []) = ds.isEmpty from eqvAll_nil ds]
  exact k
theorem g_neNilD (h1 : H a = some (.lst xs)) (hp : DpAll K H xs ds) (hs : ∀ d ∈ ds, sh 5 d) (h2 : H b = some (.lst [])) (k : Q (.bl (!ds.isEmpty)) H) : rNeD K (.ref a) (.ref b) H Q := by
  refine ⟨.list ds, .list [], .lst (SqL.of h1) hp, .lst (SqL.of h2) .nil, sh_ok (n := 6) (sh_list hs) (by omega), sh_ok (n := 1) (sh_list (by simp)) (by omega), ?_⟩
  rw [show PyData.eqv (.list ds) (.list []) = ds.isEmpty from eqvAll_nil ds]
  exact k
end
section
open He
def sElse (s : Stmt) (i : Nat) : Stmt := match s with
  | .If (orelse := b) .. => b.getD i xS
  | _ => xS
/-! ### a method of the text: where it stands -/
structure FM (K : PySem.W.Frag) (x qual : Str) (st : Stmt) (ps : List Str) where
  f : Addr
  fd : FuncData
  F : FunD K x qual (defArgs st) (defBody st) (defScope st) [] [] f fd
  b : Binds K fd ps []
/-! ### the head: a property and its getter -/
def propAd (x f : Str) (K : PySem.W.Frag) : Addr := ma K (ga K x) f
def getAd (x f : Str) (K : PySem.W.Frag) : Addr := match PySem.W.recIn K (propAd x f K) "property" with
  | some (.ref g :: _) => g
  | _ => 0
def propB (x f : Str) (K : PySem.W.Frag) : Bool := eqO (PySem.W.findIn K (.ref (ga K x)) f) (some (some (.ref (propAd x f K)))) && (eqO (PySem.W.specialIn K (.ref (propAd x f K)) "__get__") (some (some (.builtin "property.__get__"))) &&
  (decide (PySem.W.takesIn K (.ref (propAd x f K)) = some true) && (match PySem.W.recIn K (propAd x f K) "property" with
  | some (.ref _ :: _) => true
  | _ => false)))
theorem propB_ok {x f : Str} {K : PySem.W.Frag} (h : propB x f K = true) : PropOf K (ga K x) f (propAd x f K) (getAd x f K) := by
  obtain ⟨h1, h⟩ := ba h
  obtain ⟨h2, h⟩ := ba h
  obtain ⟨h3, h4⟩ := ba h
  refine ⟨eqO_ok h1, eqO_ok h2, of_decide_eq_true h3, ?_⟩
  unfold getAd
  split at h4
  · rename_i g r e
    exact ⟨r, by rw [e]⟩
  · cases h4
def fnWA (K : PySem.W.Frag) (a : Addr) : FnW := match K.lookup a with
  | some ⟨_, _, .func fd, _⟩ => some (fd.name, fd.qualname, fd.params, fd.body, fd.scope, fd.globals, fd.closure, fd.builtins)
  | _ => none
/-- a def that is found by a path -/
structure GetD where
  path : PySem.W.Frag → Addr
  name : Str
  qual : Str
  params : Arguments
  body : List Stmt
  scope : Scope
def GetD.val (d : GetD) : FnW := some (d.name, d.qual, d.params, .stmts d.body, d.scope, mainGlobals, [], builtinsNs)
def GetD.ok (d : GetD) (K : PySem.W.Frag) : Bool := PySem.W.keepIn K (.ref (d.path K)) && (match K.lookup (d.path K) with
  | some ⟨_, _, .func fd, _⟩ => PySem.W.codeIn K fd.code d.qual && (dflB K fd.defaults [] && kwdB K fd.kwdefaults [])
  | _ => false)
theorem GetD.funD {K : PySem.W.Frag} {d : GetD} (e : fnWA K (d.path K) = d.val) (c : d.ok K = true) : ∃ fd, FunD K d.name d.qual d.params d.body d.scope [] [] (d.path K) fd := by
  obtain ⟨kp, c2⟩ := ba c
  unfold fnWA at e
  cases q : K.lookup (d.path K) with
  | none => rw [q] at c2; cases c2
  | some o =>
    obtain ⟨oc, od, dt, osl⟩ := o
    rw [q] at c2 e
    cases dt with
    | func fd =>
      obtain ⟨n1, n2, n3, n4, n5, n6, n7, n8, n9, n10, n11, n12, n13, n14, n15⟩ := fd
      have e2 : (some (n1, n2, n3, n4, n5, n6, n7, n15) : FnW) = some (d.name, d.qual, d.params, .stmts d.body, d.scope, mainGlobals, [], builtinsNs) := e
      simp only [Option.some.injEq, Prod.mk.injEq] at e2
      obtain ⟨g1, g2, g3, g4, g5, g6, g7, g8⟩ := e2
      subst g1 g2 g3 g4 g5 g6 g7 g8
      obtain ⟨k1, k2⟩ := ba (show (PySem.W.codeIn K n13 d.qual && (dflB K n8 [] && kwdB K n9 [])) = true from c2)
      obtain ⟨k3, k4⟩ := ba k2
      exact ⟨_, ⟨oc, od, n8, n9, n10, n11, n12, n13, n14, osl, rfl, q, k1, dflB_ok k3, kwdB_ok k4⟩, kp⟩
    | _ => cases c2
abbrev AlG : Type := He.AlX × FnW
def obsLG (as : List Addr) (fa : List Fa) (fn : List DefD) (ts : List Tab) (tf : List Defn) (ps : List (PySem.W.Frag → Bool)) (gd : GetD) (g : Addr → Option Obj) : AlG := (obsLT as fa fn ts tf ps g, fnWA (frT g as) (gd.path (frT g as)))
def hookLG (as : List Addr) (fa : List Fa) (fn : List DefD) (ts : List Tab) (tf : List Defn) (ps : List (PySem.W.Frag → Bool)) (gd : GetD) : PySem.W.Hook where
  α := AlG
  obs := fun s => obsLG as fa fn ts tf ps gd s.heap.get?
  val := fun w => ((valT fn ts w, true), gd.val)
  says := fun w h => ∃ K : PySem.W.Frag, K.In h ∧ He.SaysX fa fn ts tf (psB ps) w h K ∧ fnWA K (gd.path K) = gd.val
  of := fun _ _ e => ⟨_, frT_in, saysLT_of (congrArg (fun z : AlG => z.1) e), congrArg (fun z : AlG => z.2) e⟩
  keeps := fun _ _ _ ⟨K, hK, c, q⟩ k => ⟨K, PySem.W.Frag.In.keeps hK k, ⟨c.t, c.more, c.hd, c.out, fun p hp => k _ _ (c.empty p hp)⟩, q⟩
theorem obsLG_eq {as : List Addr} {fa : List Fa} {fn : List DefD} {ts : List Tab} {tf : List Defn} {ps : List (PySem.W.Frag → Bool)} {gd : GetD} {g : Addr → Option Obj} {s : Shared} (h : ∀ a, g a = s.heap.get? a) : obsLG as fa fn ts tf ps gd g = (hookLG as fa fn ts tf ps gd).obs s := by
  have e : g = s.heap.get? := funext h
  rw [e]
  rfl
/-! ### a text, once or not at all -/
def rMulS : R2 := fun x y H Q => ∃ (i : Str) (n : Int), x = .str i ∧ y = .int n ∧ (n = 0 ∨ n = 1) ∧ Q (.str (if n = 1 then i else Str.empty)) H
theorem opMulS {X : Cx} : OpR X (binaryOp .Mult) rMulS := by
  rintro pins s σ H x y v u Q I rx ry ⟨i, n, rfl, rfl, hn, q⟩
  obtain ⟨t, rfl⟩ := (show ∃ t, v = Value.str i t from rx)
  obtain ⟨t', rfl⟩ := (show ∃ t, u = Value.int n t from ry)
  rcases hn with rfl | rfl
  · exact SB.mul ⟨rfl, fun h => absurd (by decide) h, fun h => absurd (by decide) h⟩ fun t1 k1 => ⟨.str Str.empty, H, I.tok _, ⟨t1, rfl⟩, q⟩
  · exact SB.mul ⟨rfl, fun _ h => absurd (show true = false from h) (by decide), fun _ h => absurd (show true = false from h) (by decide)⟩ fun t1 k1 => ⟨.str i, H, I.tok _, ⟨t1, rfl⟩, q⟩
/-! ### a list that the base does not have changes -/
section
variable {K : PySem.W.Frag} {HB H H' : Hp} {ρ : Rw} {l r : Addr}
theorem Fr.other (e : Fr r HB H) (n : HB l = none) (f : Fr l H H') : Fr r HB H' := fun a o ha h => f a o (ne_of_none h n) (e a o ha h)
theorem Row.other (h0 : Row K HB ρ) (h : Row K H ρ) (e : Fr ρ.1 HB H) (n : HB l = none) (f : Fr l H H') : Row K H' ρ := by
  obtain ⟨xs, q⟩ := h0.lst
  obtain ⟨_, _, _, _, k0, _⟩ := h0
  obtain ⟨i, s, t, hr, _, b⟩ := h
  exact ⟨i, s, t, f _ _ (ne_of_none q n) hr, k0.fr (e.other n f), b⟩
end
/-! ### the fields of an instance -/
section
variable {K : PySem.W.Frag} {H : Hp} {σ : L2.St} {Q : VK} {ta tv : TE} {f : Str} {n : L2.St → Hp → Prop} {r : VK} {b c : L2.St → Hp → Prop} {a C dx : Addr} {fs : List (Str × V)} {v : V}
theorem g_fld (h : ta σ H fun x H1 => ∃ a C dx fs v, x = .ref a ∧ H1 a = some (.ins C dx fs) ∧ Cls K C ∧ NoAttr K C f ∧ fs.lookup f = some v ∧ Q v H1) : tFld K ta f σ H Q := h
theorem g_sfld (h : tv σ H fun y H1 => ta σ H1 fun x H2 => ∃ a C dx fs, x = .ref a ∧ H2 a = some (.ins C dx fs) ∧ Cls K C ∧ NoAttr K C f ∧ fs.length < 1000 ∧ n σ (upd H2 a (.ins C dx (putF f y fs)))) : sFld K ta tv f (Ends.mk n r b c) σ H := h
theorem g_meth {m : Str} {sp : Sp} {E : XK} {t : TA} (h : ta σ H fun x H1 => ∃ a dx fs, x = .ref a ∧ H1 a = some (.ins C dx fs) ∧ fs.lookup m = none ∧ t σ H1 fun vs H2 => sp (x :: vs) H2 Q E) : tMeth C m sp [] E ta t σ H Q := by
  show ta σ H fun x H1 => ∃ a dx fs, x = .ref a ∧ H1 a = some (.ins C dx fs) ∧ fs.lookup m = none ∧ t σ H1 fun vs H2 => sp (x :: (vs ++ [])) H2 Q E
  have e : (fun x H1 => ∃ a dx fs, x = V.ref a ∧ H1 a = some (HO.ins C dx fs) ∧ fs.lookup m = none ∧ t σ H1 fun vs H2 => sp (x :: (vs ++ [])) H2 Q E) = fun x H1 => ∃ a dx fs, x = V.ref a ∧ H1 a = some (HO.ins C dx fs) ∧ fs.lookup m = none ∧ t σ H1 fun vs H2 => sp (x :: vs) H2 Q E := by
    funext x H1
    simp only [List.append_nil]
  rw [e]
  exact h
theorem g_make {sp : Sp} {E : XK} {t : TA} (h : t σ H fun vs H1 => ∀ x dx, H1 x = none → H1 dx = none → dx ≠ x → sp (.ref x :: vs) (upd (upd H1 dx (.own x)) x (.ins C dx [])) (fun v H2 => v = .non ∧ Q (.ref x) H2) E) : tMake C sp [] E t σ H Q := by
  show t σ H fun vs H1 => ∀ x dx, H1 x = none → H1 dx = none → dx ≠ x → sp (.ref x :: (vs ++ [])) (upd (upd H1 dx (.own x)) x (.ins C dx [])) (fun v H2 => v = .non ∧ Q (.ref x) H2) E
  have e : (fun vs H1 => ∀ x dx, H1 x = none → H1 dx = none → dx ≠ x → sp (V.ref x :: (vs ++ [])) (upd (upd H1 dx (.own x)) x (.ins C dx [])) (fun v H2 => v = V.non ∧ Q (.ref x) H2) E) = fun vs H1 => ∀ x dx, H1 x = none → H1 dx = none → dx ≠ x → sp (V.ref x :: vs) (upd (upd H1 dx (.own x)) x (.ins C dx [])) (fun v H2 => v = V.non ∧ Q (.ref x) H2) E := by
    funext vs H1
    simp only [List.append_nil]
  rw [e]
  exact h
theorem g_prop {sp : Sp} {E : XK} (h : ta σ H fun x H1 => ∃ a dx fs, x = .ref a ∧ H1 a = some (.ins C dx fs) ∧ sp [.ref a] H1 Q E) : tProp C sp [] E ta σ H Q := h
theorem g_del {to ti : TE} (h : to σ H fun x H1 => ti σ H1 fun y H2 => ∃ (l : Addr) (xs : List V) (i : Int) (k : Nat), x = .ref l ∧ y = .int i ∧ H2 l = some (.lst xs) ∧ -(2 ^ 63) ≤ i ∧ i < 2 ^ 63 ∧ seqIndex? i xs.length = some k ∧ n σ (upd H2 l (.lst (xs.eraseIdx k)))) : tDelL to ti (Ends.mk n r b c) σ H := h
end
end
def top (i : Nat) : Stmt := PySem.Challenge.pw_timeheld_k09_whole_desks.main.body.getD i (.Pass ⟨0, 0, 0, 0⟩)
abbrev s_offset_in_force : Stmt := top 1
theorem sc_offset_in_force : FnScope ["zone", "instant", "offset", "changes", "start", "after"] ["zone", "instant"] (defScope s_offset_in_force) := ⟨rfl, rfl, rfl, by decide +kernel, rfl, by decide +kernel, by decide +kernel⟩
abbrev s_instants_with : Stmt := top 2
theorem sc_instants_with : FnScope ["zone", "reading", "offset", "changes", "offsets", "_", "after", "hours"] ["zone", "reading"] (defScope s_instants_with) := ⟨rfl, rfl, rfl, by decide +kernel, rfl, by decide +kernel, by decide +kernel⟩
abbrev s_offset_before_gap : Stmt := top 3
theorem sc_offset_before_gap : FnScope ["zone", "reading", "before", "changes", "start", "after"] ["zone", "reading"] (defScope s_offset_before_gap) := ⟨rfl, rfl, rfl, by decide +kernel, rfl, by decide +kernel, by decide +kernel⟩
abbrev s_instant_of_time : Stmt := top 6
theorem sc_instant_of_time : FnScope ["library", "zone", "time", "reading", "turn", "instants"] ["library", "zone", "time"] (defScope s_instant_of_time) := ⟨rfl, rfl, rfl, by decide +kernel, rfl, by decide +kernel, by decide +kernel⟩
abbrev s_time_at : Stmt := top 7
theorem sc_time_at : FnScope ["library", "zone", "instant", "reading", "instants"] ["library", "zone", "instant"] (defScope s_time_at) := ⟨rfl, rfl, rfl, by decide +kernel, rfl, by decide +kernel, by decide +kernel⟩
abbrev s_time_read : Stmt := top 8
theorem sc_time_read : FnScope ["library", "zone", "reading", "gap", "fold", "many"] ["library", "zone", "reading"] (defScope s_time_read) := ⟨rfl, rfl, rfl, by decide +kernel, rfl, by decide +kernel, by decide +kernel⟩
abbrev s_place_of : Stmt := top 10
theorem sc_place_of : FnScope ["way", "library", "zone", "time"] ["way", "library", "zone", "time"] (defScope s_place_of) := ⟨rfl, rfl, rfl, by decide +kernel, rfl, by decide +kernel, by decide +kernel⟩
abbrev s_time_after : Stmt := top 11
theorem sc_time_after : FnScope ["library", "zone", "time", "duration", "sums", "place"] ["library", "zone", "time", "duration"] (defScope s_time_after) := ⟨rfl, rfl, rfl, by decide +kernel, rfl, by decide +kernel, by decide +kernel⟩
abbrev s_integer_of : Stmt := top 23
theorem sc_integer_of : FnScope ["word", "digits", "number", "sign"] ["word"] (defScope s_integer_of) := ⟨rfl, rfl, rfl, by decide +kernel, rfl, by decide +kernel, by decide +kernel⟩
abbrev s_is_between : Stmt := top 28
theorem sc_is_between : FnScope ["value", "low", "high"] ["value", "low", "high"] (defScope s_is_between) := ⟨rfl, rfl, rfl, by decide +kernel, rfl, by decide +kernel, by decide +kernel⟩
abbrev s_is_tuple_of : Stmt := top 29
theorem sc_is_tuple_of : FnScope ["many", "value"] ["many", "value"] (defScope s_is_tuple_of) := ⟨rfl, rfl, rfl, by decide +kernel, rfl, by decide +kernel, by decide +kernel⟩
abbrev s_is_instant : Stmt := top 30
theorem sc_is_instant : FnScope ["value"] ["value"] (defScope s_is_instant) := ⟨rfl, rfl, rfl, by decide +kernel, rfl, by decide +kernel, by decide +kernel⟩
abbrev s_is_reading : Stmt := top 31
theorem sc_is_reading : FnScope ["value"] ["value"] (defScope s_is_reading) := ⟨rfl, rfl, rfl, by decide +kernel, rfl, by decide +kernel, by decide +kernel⟩
abbrev s_is_duration : Stmt := top 32
theorem sc_is_duration : FnScope ["value"] ["value"] (defScope s_is_duration) := ⟨rfl, rfl, rfl, by decide +kernel, rfl, by decide +kernel, by decide +kernel⟩
abbrev s_is_zone : Stmt := top 40
theorem sc_is_zone : FnScope ["value", "offset", "changes"] ["value"] (defScope s_is_zone) := ⟨rfl, rfl, rfl, by decide +kernel, rfl, by decide +kernel, by decide +kernel⟩
abbrev s_are_changes_after : Stmt := top 41
theorem sc_are_changes_after : FnScope ["offset", "changes", "earliest", "change", "instant"] ["offset", "changes"] (defScope s_are_changes_after) := ⟨rfl, rfl, rfl, by decide +kernel, rfl, by decide +kernel, by decide +kernel⟩
abbrev s_is_change_after : Stmt := top 42
theorem sc_is_change_after : FnScope ["before", "earliest", "value", "instant", "offset"] ["before", "earliest", "value"] (defScope s_is_change_after) := ⟨rfl, rfl, rfl, by decide +kernel, rfl, by decide +kernel, by decide +kernel⟩
abbrev s_check_zone : Stmt := top 43
theorem sc_check_zone : FnScope ["value"] ["value"] (defScope s_check_zone) := ⟨rfl, rfl, rfl, by decide +kernel, rfl, by decide +kernel, by decide +kernel⟩
abbrev s_is_library : Stmt := top 49
theorem sc_is_library : FnScope ["value", "sums", "order", "gap", "fold"] ["value"] (defScope s_is_library) := ⟨rfl, rfl, rfl, by decide +kernel, rfl, by decide +kernel, by decide +kernel⟩
abbrev s_check_library : Stmt := top 50
theorem sc_check_library : FnScope ["value"] ["value"] (defScope s_check_library) := ⟨rfl, rfl, rfl, by decide +kernel, rfl, by decide +kernel, by decide +kernel⟩
abbrev s_check_text : Stmt := top 52
theorem sc_check_text : FnScope ["value"] ["value"] (defScope s_check_text) := ⟨rfl, rfl, rfl, by decide +kernel, rfl, by decide +kernel, by decide +kernel⟩
abbrev s_reading_told : Stmt := top 56
theorem sc_reading_told : FnScope ["time", "reading", "turn"] ["time"] (defScope s_reading_told) := ⟨rfl, rfl, rfl, by decide +kernel, rfl, by decide +kernel, by decide +kernel⟩
abbrev s_instant_told : Stmt := top 57
theorem sc_instant_told : FnScope ["library", "zone", "time"] ["library", "zone", "time"] (defScope s_instant_told) := ⟨rfl, rfl, rfl, by decide +kernel, rfl, by decide +kernel, by decide +kernel⟩
abbrev s_law_taken : Stmt := top 59
theorem sc_law_taken : FnScope ["row", "many", "found", "cell"] ["row", "many"] (defScope s_law_taken) := ⟨rfl, rfl, rfl, by decide +kernel, rfl, by decide +kernel, by decide +kernel⟩
abbrev s_law_pick : Stmt := top 60
theorem sc_law_pick : FnScope ["row", "kinds"] ["row", "kinds"] (defScope s_law_pick) := ⟨rfl, rfl, rfl, by decide +kernel, rfl, by decide +kernel, by decide +kernel⟩
abbrev s_law_alike : Stmt := top 61
theorem sc_law_alike : FnScope ["found", "due", "k"] ["found", "due"] (defScope s_law_alike) := ⟨rfl, rfl, rfl, by decide +kernel, rfl, by decide +kernel, by decide +kernel⟩
abbrev s_law_zone : Stmt := top 62
theorem sc_law_zone : FnScope ["row", "kind", "offset", "found", "at", "first", "many", "k", "step", "sign"] ["row", "kind"] (defScope s_law_zone) := ⟨rfl, rfl, rfl, by decide +kernel, rfl, by decide +kernel, by decide +kernel⟩
abbrev s_law_library : Stmt := top 63
theorem sc_law_library : FnScope ["row", "first", "second"] ["row"] (defScope s_law_library) := ⟨rfl, rfl, rfl, by decide +kernel, rfl, by decide +kernel, by decide +kernel⟩
abbrev s_law_offset : Stmt := top 64
theorem sc_law_offset : FnScope ["zone", "instant", "some", "at", "after"] ["zone", "instant"] (defScope s_law_offset) := ⟨rfl, rfl, rfl, by decide +kernel, rfl, by decide +kernel, by decide +kernel⟩
abbrev s_law_instants : Stmt := top 65
theorem sc_law_instants : FnScope ["zone", "reading", "each"] ["zone", "reading"] (defScope s_law_instants) := ⟨rfl, rfl, rfl, by decide +kernel, rfl, by decide +kernel, by decide +kernel⟩
abbrev s_law_before : Stmt := top 66
theorem sc_law_before : FnScope ["zone", "reading", "last", "each"] ["zone", "reading"] (defScope s_law_before) := ⟨rfl, rfl, rfl, by decide +kernel, rfl, by decide +kernel, by decide +kernel⟩
abbrev s_law_instant : Stmt := top 67
theorem sc_law_instant : FnScope ["way", "zone", "time", "some"] ["way", "zone", "time"] (defScope s_law_instant) := ⟨rfl, rfl, rfl, by decide +kernel, rfl, by decide +kernel, by decide +kernel⟩
abbrev s_law_at : Stmt := top 68
theorem sc_law_at : FnScope ["way", "zone", "instant", "reading", "some"] ["way", "zone", "instant"] (defScope s_law_at) := ⟨rfl, rfl, rfl, by decide +kernel, rfl, by decide +kernel, by decide +kernel⟩
abbrev s_law_read : Stmt := top 69
theorem sc_law_read : FnScope ["way", "zone", "reading", "some", "bad"] ["way", "zone", "reading"] (defScope s_law_read) := ⟨rfl, rfl, rfl, by decide +kernel, rfl, by decide +kernel, by decide +kernel⟩
abbrev s_law_add : Stmt := top 70
theorem sc_law_add : FnScope ["way", "zone", "time", "hours"] ["way", "zone", "time", "hours"] (defScope s_law_add) := ⟨rfl, rfl, rfl, by decide +kernel, rfl, by decide +kernel, by decide +kernel⟩
abbrev s_law_spot : Stmt := top 71
theorem sc_law_spot : FnScope ["row", "zone", "changes", "at", "after"] ["row", "zone"] (defScope s_law_spot) := ⟨rfl, rfl, rfl, by decide +kernel, rfl, by decide +kernel, by decide +kernel⟩
abbrev s_law_hours : Stmt := top 72
theorem sc_law_hours : FnScope ["row"] ["row"] (defScope s_law_hours) := ⟨rfl, rfl, rfl, by decide +kernel, rfl, by decide +kernel, by decide +kernel⟩
abbrev s_law_wrong : Stmt := top 73
theorem sc_law_wrong : FnScope ["work", "e", "known"] ["work"] (defScope s_law_wrong) := ⟨rfl, rfl, rfl, by decide +kernel, rfl, by decide +kernel, by decide +kernel⟩
abbrev s_law : Stmt := top 74
theorem sc_law : FnScope ["script", "row", "way", "zone", "desk", "own", "past", "turn", "word", "number", "read", "shown", "far", "odd"] ["script"] (defScope s_law) := ⟨rfl, rfl, rfl, by decide +kernel, rfl, by decide +kernel, by decide +kernel⟩
abbrev s_Desk_init : Stmt := inClass (top 55) 0
theorem sc_Desk_init : FnScope ["self", "library", "zone"] ["self", "library", "zone"] (defScope s_Desk_init) := ⟨rfl, rfl, rfl, by decide +kernel, rfl, by decide +kernel, by decide +kernel⟩
abbrev s_Desk_time : Stmt := inClass (top 55) 1
theorem sc_Desk_time : FnScope ["self"] ["self"] (defScope s_Desk_time) := ⟨rfl, rfl, rfl, by decide +kernel, rfl, by decide +kernel, by decide +kernel⟩
abbrev s_Desk_run : Stmt := inClass (top 55) 2
theorem sc_Desk_run : FnScope ["self", "line", "word", "_", "digits", "number"] ["self", "line"] (defScope s_Desk_run) := ⟨rfl, rfl, rfl, by decide +kernel, rfl, by decide +kernel, by decide +kernel⟩
abbrev s_Desk_time_by : Stmt := inClass (top 55) 3
theorem sc_Desk_time_by : FnScope ["self", "word", "number", "library", "zone"] ["self", "word", "number"] (defScope s_Desk_time_by) := ⟨rfl, rfl, rfl, by decide +kernel, rfl, by decide +kernel, by decide +kernel⟩
abbrev s_Desk_undo : Stmt := inClass (top 55) 4
theorem sc_Desk_undo : FnScope ["self"] ["self"] (defScope s_Desk_undo) := ⟨rfl, rfl, rfl, by decide +kernel, rfl, by decide +kernel, by decide +kernel⟩
structure Txt (w : World) (K : PySem.W.Frag) (mg : Str → Option Value) where
  f_offset_in_force : FA K mg "offset_in_force" s_offset_in_force ["zone", "instant"]
  f_instants_with : FA K mg "instants_with" s_instants_with ["zone", "reading"]
  f_offset_before_gap : FA K mg "offset_before_gap" s_offset_before_gap ["zone", "reading"]
  f_instant_of_time : FA K mg "instant_of_time" s_instant_of_time ["library", "zone", "time"]
  f_time_at : FA K mg "time_at" s_time_at ["library", "zone", "instant"]
  f_time_read : FA K mg "time_read" s_time_read ["library", "zone", "reading"]
  f_place_of : FA K mg "place_of" s_place_of ["way", "library", "zone", "time"]
  f_time_after : FA K mg "time_after" s_time_after ["library", "zone", "time", "duration"]
  f_integer_of : FA K mg "integer_of" s_integer_of ["word"]
  f_is_between : FA K mg "is_between" s_is_between ["value", "low", "high"]
  f_is_tuple_of : FA K mg "is_tuple_of" s_is_tuple_of ["many", "value"]
  f_is_instant : FA K mg "is_instant" s_is_instant ["value"]
  f_is_reading : FA K mg "is_reading" s_is_reading ["value"]
  f_is_duration : FA K mg "is_duration" s_is_duration ["value"]
  f_is_zone : FA K mg "is_zone" s_is_zone ["value"]
  f_are_changes_after : FA K mg "_are_changes_after" s_are_changes_after ["offset", "changes"]
  f_is_change_after : FA K mg "_is_change_after" s_is_change_after ["before", "earliest", "value"]
  f_check_zone : FA K mg "check_zone" s_check_zone ["value"]
  f_is_library : FA K mg "is_library" s_is_library ["value"]
  f_check_library : FA K mg "check_library" s_check_library ["value"]
  f_check_text : FA K mg "check_text" s_check_text ["value"]
  f_reading_told : FA K mg "_reading_told" s_reading_told ["time"]
  f_instant_told : FA K mg "_instant_told" s_instant_told ["library", "zone", "time"]
  f_law_taken : FA K mg "_law_taken" s_law_taken ["row", "many"]
  f_law_pick : FA K mg "_law_pick" s_law_pick ["row", "kinds"]
  f_law_alike : FA K mg "_law_alike" s_law_alike ["found", "due"]
  f_law_zone : FA K mg "_law_zone" s_law_zone ["row", "kind"]
  f_law_library : FA K mg "_law_library" s_law_library ["row"]
  f_law_offset : FA K mg "_law_offset" s_law_offset ["zone", "instant"]
  f_law_instants : FA K mg "_law_instants" s_law_instants ["zone", "reading"]
  f_law_before : FA K mg "_law_before" s_law_before ["zone", "reading"]
  f_law_instant : FA K mg "_law_instant" s_law_instant ["way", "zone", "time"]
  f_law_at : FA K mg "_law_at" s_law_at ["way", "zone", "instant"]
  f_law_read : FA K mg "_law_read" s_law_read ["way", "zone", "reading"]
  f_law_add : FA K mg "_law_add" s_law_add ["way", "zone", "time", "hours"]
  f_law_spot : FA K mg "_law_spot" s_law_spot ["row", "zone"]
  f_law_hours : FA K mg "_law_hours" s_law_hours ["row"]
  f_law_wrong : FA K mg "_law_wrong" s_law_wrong ["work"]
  f_law : FA K mg "law" s_law ["script"]
  f_Desk_init : FM K "__init__" "Desk.__init__" s_Desk_init ["self", "library", "zone"]
  f_Desk_time : FM K "time" "Desk.time" s_Desk_time ["self"]
  f_Desk_run : FM K "run" "Desk.run" s_Desk_run ["self", "line"]
  f_Desk_time_by : FM K "_time_by" "Desk._time_by" s_Desk_time_by ["self", "word", "number"]
  f_Desk_undo : FM K "undo" "Desk.undo" s_Desk_undo ["self"]
  a_Desk : Addr
  g_Desk : mg "Desk" = some (.ref a_Desk)
  cl_Desk : Cls K a_Desk
  mk_Desk : Mk K a_Desk f_Desk_init.f
  na_library : NoAttr K a_Desk "_library"
  na_times : NoAttr K a_Desk "_times"
  na_zone : NoAttr K a_Desk "_zone"
  p_Desk_time : Addr
  pr_Desk_time : PropOf K a_Desk "time" p_Desk_time f_Desk_time.f
  me_Desk_run : Meth K a_Desk "run" f_Desk_run.f
  me_Desk_time_by : Meth K a_Desk "_time_by" f_Desk_time_by.f
  me_Desk_undo : Meth K a_Desk "undo" f_Desk_undo.f
  e_TimeError : Addr
  g_TimeError : mg "TimeError" = some (.ref e_TimeError)
  e_BadZone : Addr
  g_BadZone : mg "BadZone" = some (.ref e_BadZone)
  x_BadZone : ErrC K e_BadZone
  m_BadZone : PySem.W.exmOne K (.ref e_BadZone) (.ref e_TimeError) = some true
  e_BadLibrary : Addr
  g_BadLibrary : mg "BadLibrary" = some (.ref e_BadLibrary)
  x_BadLibrary : ErrC K e_BadLibrary
  m_BadLibrary : PySem.W.exmOne K (.ref e_BadLibrary) (.ref e_TimeError) = some true
  e_NotText : Addr
  g_NotText : mg "NotText" = some (.ref e_NotText)
  x_NotText : ErrC K e_NotText
  m_NotText : PySem.W.exmOne K (.ref e_NotText) (.ref e_TimeError) = some true
  e_InvalidText : Addr
  g_InvalidText : mg "InvalidText" = some (.ref e_InvalidText)
  x_InvalidText : ErrC K e_InvalidText
  m_InvalidText : PySem.W.exmOne K (.ref e_InvalidText) (.ref e_TimeError) = some true
  e_NotNow : Addr
  g_NotNow : mg "NotNow" = some (.ref e_NotNow)
  x_NotNow : ErrC K e_NotNow
  m_NotNow : PySem.W.exmOne K (.ref e_NotNow) (.ref e_TimeError) = some true
  e_NothingToUndo : Addr
  g_NothingToUndo : mg "NothingToUndo" = some (.ref e_NothingToUndo)
  x_NothingToUndo : ErrC K e_NothingToUndo
  m_NothingToUndo : PySem.W.exmOne K (.ref e_NothingToUndo) (.ref e_TimeError) = some true
  kits : Kits K [e_BadZone, e_BadLibrary, e_NotText, e_InvalidText, e_NotNow, e_NothingToUndo]
  z_tuple : mg "tuple" = none
  z_sorted : mg "sorted" = none
  z_len : mg "len" = none
  z_int : mg "int" = none
  z_all : mg "all" = none
  z_str : mg "str" = none
  z_isinstance : mg "isinstance" = none
  z_bool : mg "bool" = none
  z_abs : mg "abs" = none
  z_list : mg "list" = none
  z_range : mg "range" = none
  z_max : mg "max" = none
  z_property : mg "property" = none
  u_REFUSED : Tok
  c_REFUSED : mg "REFUSED" = some (Value.str "refused" u_REFUSED)
  u_MOST_DIGITS : Tok
  c_MOST_DIGITS : mg "MOST_DIGITS" = some (Value.int 9 u_MOST_DIGITS)
  u_DIGITS : Tok
  c_DIGITS : mg "DIGITS" = some (Value.str "0123456789" u_DIGITS)
  u_MOST_INSTANT : Tok
  c_MOST_INSTANT : mg "MOST_INSTANT" = some (Value.int 100000 u_MOST_INSTANT)
  u_MOST_READING : Tok
  c_MOST_READING : mg "MOST_READING" = some (Value.int 90000 u_MOST_READING)
  u_MOST_DURATION : Tok
  c_MOST_DURATION : mg "MOST_DURATION" = some (Value.int 9000 u_MOST_DURATION)
  u_MOST_FIRST_OFFSET : Tok
  c_MOST_FIRST_OFFSET : mg "MOST_FIRST_OFFSET" = some (Value.int 12 u_MOST_FIRST_OFFSET)
  u_MOST_CHANGES : Tok
  c_MOST_CHANGES : mg "MOST_CHANGES" = some (Value.int 8 u_MOST_CHANGES)
  u_MOST_CHANGE_INSTANT : Tok
  c_MOST_CHANGE_INSTANT : mg "MOST_CHANGE_INSTANT" = some (Value.int 1000 u_MOST_CHANGE_INSTANT)
  u_LEAST_DISTANCE : Tok
  c_LEAST_DISTANCE : mg "LEAST_DISTANCE" = some (Value.int 12 u_LEAST_DISTANCE)
  u_MOST_STEP : Tok
  c_MOST_STEP : mg "MOST_STEP" = some (Value.int 3 u_MOST_STEP)
  u_MOST_LATER_OFFSET : Tok
  c_MOST_LATER_OFFSET : mg "MOST_LATER_OFFSET" = some (Value.int 15 u_MOST_LATER_OFFSET)
  a_SUMS : Addr
  c_SUMS : mg "SUMS" = some (.ref a_SUMS)
  q_SUMS : ∀ H : Hp, SqT K H a_SUMS [.str "elapsed", .str "wall"]
  a_ORDERS : Addr
  c_ORDERS : mg "ORDERS" = some (.ref a_ORDERS)
  q_ORDERS : ∀ H : Hp, SqT K H a_ORDERS [.str "elapsed", .str "wall"]
  a_GAPS : Addr
  c_GAPS : mg "GAPS" = some (.ref a_GAPS)
  q_GAPS : ∀ H : Hp, SqT K H a_GAPS [.str "keep", .str "refuse", .str "shift"]
  a_FOLDS : Addr
  c_FOLDS : mg "FOLDS" = some (.ref a_FOLDS)
  q_FOLDS : ∀ H : Hp, SqT K H a_FOLDS [.str "both", .str "first", .str "refuse", .str "second"]
  u_FIRST_INSTANT : Tok
  c_FIRST_INSTANT : mg "FIRST_INSTANT" = some (Value.int (-500) u_FIRST_INSTANT)
end TH
set_option maxHeartbeats 0
namespace TH
open PySem PySem.Spec PyProof.Rows L2
def d_offset_in_force : He.DefD := ⟨("offset_in_force", none), "offset_in_force", "offset_in_force", defArgs s_offset_in_force, defBody s_offset_in_force, defScope s_offset_in_force, [], []⟩
def d_instants_with : He.DefD := ⟨("instants_with", none), "instants_with", "instants_with", defArgs s_instants_with, defBody s_instants_with, defScope s_instants_with, [], []⟩
def d_offset_before_gap : He.DefD := ⟨("offset_before_gap", none), "offset_before_gap", "offset_before_gap", defArgs s_offset_before_gap, defBody s_offset_before_gap, defScope s_offset_before_gap, [], []⟩
def d_instant_of_time : He.DefD := ⟨("instant_of_time", none), "instant_of_time", "instant_of_time", defArgs s_instant_of_time, defBody s_instant_of_time, defScope s_instant_of_time, [], []⟩
def d_time_at : He.DefD := ⟨("time_at", none), "time_at", "time_at", defArgs s_time_at, defBody s_time_at, defScope s_time_at, [], []⟩
def d_time_read : He.DefD := ⟨("time_read", none), "time_read", "time_read", defArgs s_time_read, defBody s_time_read, defScope s_time_read, [], []⟩
def d_place_of : He.DefD := ⟨("place_of", none), "place_of", "place_of", defArgs s_place_of, defBody s_place_of, defScope s_place_of, [], []⟩
def d_time_after : He.DefD := ⟨("time_after", none), "time_after", "time_after", defArgs s_time_after, defBody s_time_after, defScope s_time_after, [], []⟩
def d_integer_of : He.DefD := ⟨("integer_of", none), "integer_of", "integer_of", defArgs s_integer_of, defBody s_integer_of, defScope s_integer_of, [], []⟩
def d_is_between : He.DefD := ⟨("is_between", none), "is_between", "is_between", defArgs s_is_between, defBody s_is_between, defScope s_is_between, [], []⟩
def d_is_tuple_of : He.DefD := ⟨("is_tuple_of", none), "is_tuple_of", "is_tuple_of", defArgs s_is_tuple_of, defBody s_is_tuple_of, defScope s_is_tuple_of, [], []⟩
def d_is_instant : He.DefD := ⟨("is_instant", none), "is_instant", "is_instant", defArgs s_is_instant, defBody s_is_instant, defScope s_is_instant, [], []⟩
def d_is_reading : He.DefD := ⟨("is_reading", none), "is_reading", "is_reading", defArgs s_is_reading, defBody s_is_reading, defScope s_is_reading, [], []⟩
def d_is_duration : He.DefD := ⟨("is_duration", none), "is_duration", "is_duration", defArgs s_is_duration, defBody s_is_duration, defScope s_is_duration, [], []⟩
def d_is_zone : He.DefD := ⟨("is_zone", none), "is_zone", "is_zone", defArgs s_is_zone, defBody s_is_zone, defScope s_is_zone, [], []⟩
def d_are_changes_after : He.DefD := ⟨("_are_changes_after", none), "_are_changes_after", "_are_changes_after", defArgs s_are_changes_after, defBody s_are_changes_after, defScope s_are_changes_after, [], []⟩
def d_is_change_after : He.DefD := ⟨("_is_change_after", none), "_is_change_after", "_is_change_after", defArgs s_is_change_after, defBody s_is_change_after, defScope s_is_change_after, [], []⟩
def d_check_zone : He.DefD := ⟨("check_zone", none), "check_zone", "check_zone", defArgs s_check_zone, defBody s_check_zone, defScope s_check_zone, [], []⟩
def d_is_library : He.DefD := ⟨("is_library", none), "is_library", "is_library", defArgs s_is_library, defBody s_is_library, defScope s_is_library, [], []⟩
def d_check_library : He.DefD := ⟨("check_library", none), "check_library", "check_library", defArgs s_check_library, defBody s_check_library, defScope s_check_library, [], []⟩
def d_check_text : He.DefD := ⟨("check_text", none), "check_text", "check_text", defArgs s_check_text, defBody s_check_text, defScope s_check_text, [], []⟩
def d_reading_told : He.DefD := ⟨("_reading_told", none), "_reading_told", "_reading_told", defArgs s_reading_told, defBody s_reading_told, defScope s_reading_told, [], []⟩
def d_instant_told : He.DefD := ⟨("_instant_told", none), "_instant_told", "_instant_told", defArgs s_instant_told, defBody s_instant_told, defScope s_instant_told, [], []⟩
def d_law_taken : He.DefD := ⟨("_law_taken", none), "_law_taken", "_law_taken", defArgs s_law_taken, defBody s_law_taken, defScope s_law_taken, [], []⟩
def d_law_pick : He.DefD := ⟨("_law_pick", none), "_law_pick", "_law_pick", defArgs s_law_pick, defBody s_law_pick, defScope s_law_pick, [], []⟩
def d_law_alike : He.DefD := ⟨("_law_alike", none), "_law_alike", "_law_alike", defArgs s_law_alike, defBody s_law_alike, defScope s_law_alike, [], []⟩
def d_law_zone : He.DefD := ⟨("_law_zone", none), "_law_zone", "_law_zone", defArgs s_law_zone, defBody s_law_zone, defScope s_law_zone, [], []⟩
def d_law_library : He.DefD := ⟨("_law_library", none), "_law_library", "_law_library", defArgs s_law_library, defBody s_law_library, defScope s_law_library, [], []⟩
def d_law_offset : He.DefD := ⟨("_law_offset", none), "_law_offset", "_law_offset", defArgs s_law_offset, defBody s_law_offset, defScope s_law_offset, [], []⟩
def d_law_instants : He.DefD := ⟨("_law_instants", none), "_law_instants", "_law_instants", defArgs s_law_instants, defBody s_law_instants, defScope s_law_instants, [], []⟩
def d_law_before : He.DefD := ⟨("_law_before", none), "_law_before", "_law_before", defArgs s_law_before, defBody s_law_before, defScope s_law_before, [], []⟩
def d_law_instant : He.DefD := ⟨("_law_instant", none), "_law_instant", "_law_instant", defArgs s_law_instant, defBody s_law_instant, defScope s_law_instant, [], []⟩
def d_law_at : He.DefD := ⟨("_law_at", none), "_law_at", "_law_at", defArgs s_law_at, defBody s_law_at, defScope s_law_at, [], []⟩
def d_law_read : He.DefD := ⟨("_law_read", none), "_law_read", "_law_read", defArgs s_law_read, defBody s_law_read, defScope s_law_read, [], []⟩
def d_law_add : He.DefD := ⟨("_law_add", none), "_law_add", "_law_add", defArgs s_law_add, defBody s_law_add, defScope s_law_add, [], []⟩
def d_law_spot : He.DefD := ⟨("_law_spot", none), "_law_spot", "_law_spot", defArgs s_law_spot, defBody s_law_spot, defScope s_law_spot, [], []⟩
def d_law_hours : He.DefD := ⟨("_law_hours", none), "_law_hours", "_law_hours", defArgs s_law_hours, defBody s_law_hours, defScope s_law_hours, [], []⟩
def d_law_wrong : He.DefD := ⟨("_law_wrong", none), "_law_wrong", "_law_wrong", defArgs s_law_wrong, defBody s_law_wrong, defScope s_law_wrong, [], []⟩
def d_law : He.DefD := ⟨("law", none), "law", "law", defArgs s_law, defBody s_law, defScope s_law, [], []⟩
def d_Desk_init : He.DefD := ⟨("Desk", some "__init__"), "__init__", "Desk.__init__", defArgs s_Desk_init, defBody s_Desk_init, defScope s_Desk_init, [], []⟩
def d_Desk_run : He.DefD := ⟨("Desk", some "run"), "run", "Desk.run", defArgs s_Desk_run, defBody s_Desk_run, defScope s_Desk_run, [], []⟩
def d_Desk_time_by : He.DefD := ⟨("Desk", some "_time_by"), "_time_by", "Desk._time_by", defArgs s_Desk_time_by, defBody s_Desk_time_by, defScope s_Desk_time_by, [], []⟩
def d_Desk_undo : He.DefD := ⟨("Desk", some "undo"), "undo", "Desk.undo", defArgs s_Desk_undo, defBody s_Desk_undo, defScope s_Desk_undo, [], []⟩
def gd : GetD := ⟨getAd "Desk" "time", "time", "Desk.time", defArgs s_Desk_time, defBody s_Desk_time, defScope s_Desk_time⟩
def fn : List He.DefD := [d_offset_in_force, d_instants_with, d_offset_before_gap, d_instant_of_time, d_time_at, d_time_read, d_place_of, d_time_after, d_integer_of, d_is_between, d_is_tuple_of, d_is_instant, d_is_reading, d_is_duration, d_is_zone, d_are_changes_after, d_is_change_after, d_check_zone, d_is_library, d_check_library, d_check_text, d_reading_told, d_instant_told, d_law_taken, d_law_pick, d_law_alike, d_law_zone, d_law_library, d_law_offset, d_law_instants, d_law_before, d_law_instant, d_law_at, d_law_read, d_law_add, d_law_spot, d_law_hours, d_law_wrong, d_law, d_Desk_init, d_Desk_run, d_Desk_time_by, d_Desk_undo]
def fa : List He.Fa := [.glo "offset_in_force", .glo "instants_with", .glo "offset_before_gap", .glo "instant_of_time", .glo "time_at", .glo "time_read", .glo "place_of", .glo "time_after", .glo "integer_of", .glo "is_between", .glo "is_tuple_of", .glo "is_instant", .glo "is_reading", .glo "is_duration", .glo "is_zone", .glo "_are_changes_after", .glo "_is_change_after", .glo "check_zone", .glo "is_library", .glo "check_library", .glo "check_text", .glo "_reading_told", .glo "_instant_told", .glo "_law_taken", .glo "_law_pick", .glo "_law_alike", .glo "_law_zone", .glo "_law_library", .glo "_law_offset", .glo "_law_instants", .glo "_law_before", .glo "_law_instant", .glo "_law_at", .glo "_law_read", .glo "_law_add", .glo "_law_spot", .glo "_law_hours", .glo "_law_wrong", .glo "law", .glo "TimeError", .glo "BadZone", .glo "BadLibrary", .glo "NotText", .glo "InvalidText", .glo "NotNow", .glo "NothingToUndo", .free "tuple", .free "sorted", .free "len", .free "int", .free "all", .free "str", .free "isinstance", .free "bool", .free "abs", .free "list", .free "range", .free "max", .free "property", .str "REFUSED" "refused", .int "MOST_DIGITS" 9, .str "DIGITS" "0123456789", .int "MOST_INSTANT" 100000, .int "MOST_READING" 90000, .int "MOST_DURATION" 9000, .int "MOST_FIRST_OFFSET" 12, .int "MOST_CHANGES" 8, .int "MOST_CHANGE_INSTANT" 1000, .int "LEAST_DISTANCE" 12, .int "MOST_STEP" 3, .int "MOST_LATER_OFFSET" 15, .glo "SUMS", .glo "ORDERS", .glo "GAPS", .glo "FOLDS", .int "FIRST_INSTANT" (-500), .glo "Desk", .cls "Desk", .mkr "Desk", .noat "Desk" "_library", .noat "Desk" "_times", .noat "Desk" "_zone", .meth "Desk" "run", .meth "Desk" "_time_by", .meth "Desk" "undo"]
abbrev R : PySem.W.OpenRow := PySem.W.OpenLaw.row PySem.Challenge.rw_timeheld_k09_whole_desks
def ts : List He.Tab := []
def ps : List (PySem.W.Frag → Bool) := [tupD (gaF "SUMS") [.str "elapsed", .str "wall"],
  tupD (gaF "ORDERS") [.str "elapsed", .str "wall"],
  tupD (gaF "GAPS") [.str "keep", .str "refuse", .str "shift"],
  tupD (gaF "FOLDS") [.str "both", .str "first", .str "refuse", .str "second"],
  errB (gaF "BadZone"),
  excB (gaF "BadZone") (gaF "TimeError"),
  errB (gaF "BadLibrary"),
  excB (gaF "BadLibrary") (gaF "TimeError"),
  errB (gaF "NotText"),
  excB (gaF "NotText") (gaF "TimeError"),
  errB (gaF "InvalidText"),
  excB (gaF "InvalidText") (gaF "TimeError"),
  errB (gaF "NotNow"),
  excB (gaF "NotNow") (gaF "TimeError"),
  errB (gaF "NothingToUndo"),
  excB (gaF "NothingToUndo") (gaF "TimeError"),
  kitsB [gaF "BadZone", gaF "BadLibrary", gaF "NotText", gaF "InvalidText", gaF "NotNow", gaF "NothingToUndo"],
  apartB [gaF "BadZone", gaF "BadLibrary", gaF "NotText", gaF "InvalidText", gaF "NotNow", gaF "NothingToUndo"],
  propB "Desk" "time",
  GetD.ok gd]
def tfs : List He.Defn := [("law", none)]
def as_ : List Addr := [3, 6, 21, 26, 33, 40, 47, 54, 61, 68, 158, 165, 172, 179, 186, 193, 200, 207, 214, 221, 222, 223, 224, 225, 232, 239, 246, 303, 310, 317, 324, 329, 336, 343, 348, 353, 358, 365, 372, 379, 386, 393, 400, 407, 414, 20, 25, 32, 39, 46, 53, 60, 67, 157, 164, 171, 178, 185, 192, 199, 206, 213, 220, 231, 238, 245, 302, 309, 316, 323, 328, 335, 342, 347, 352, 357, 364, 371, 378, 385, 392, 399, 406, 413, 78, 77, 91, 90, 103, 102, 115, 114, 127, 126, 139, 138, 151, 150, 292, 291, 260, 259, 268, 267, 266, 275, 274, 282, 281, 289, 288]
abbrev hk : PySem.W.Hook := hookLG as_ fa fn ts tfs ps gd
def ob (s : PySem.W.SharedT) : AlG := obsLG as_ fa fn ts tfs ps gd (HandSHeadRun.getT s)
theorem ob_eq (s : PySem.W.SharedT) : ob s = hk.obs s.abs := obsLG_eq (HandSHeadRun.getT_eq s)
def loose : List PySem.Str := [("offset_in_force" : PySem.Str), ("instants_with" : PySem.Str), ("offset_before_gap" : PySem.Str), ("REFUSED" : PySem.Str), ("instant_of_time" : PySem.Str), ("time_at" : PySem.Str), ("time_read" : PySem.Str), ("place_of" : PySem.Str), ("time_after" : PySem.Str), ("TimeError" : PySem.Str), ("BadZone" : PySem.Str), ("BadLibrary" : PySem.Str), ("NotText" : PySem.Str), ("InvalidText" : PySem.Str), ("NotNow" : PySem.Str), ("NothingToUndo" : PySem.Str), ("DIGITS" : PySem.Str), ("MOST_DIGITS" : PySem.Str), ("integer_of" : PySem.Str), ("MOST_INSTANT" : PySem.Str), ("MOST_READING" : PySem.Str), ("MOST_DURATION" : PySem.Str), ("is_between" : PySem.Str), ("is_tuple_of" : PySem.Str), ("is_instant" : PySem.Str), ("is_reading" : PySem.Str), ("is_duration" : PySem.Str), ("MOST_FIRST_OFFSET" : PySem.Str), ("MOST_LATER_OFFSET" : PySem.Str), ("MOST_CHANGES" : PySem.Str), ("MOST_CHANGE_INSTANT" : PySem.Str), ("LEAST_DISTANCE" : PySem.Str), ("MOST_STEP" : PySem.Str), ("is_zone" : PySem.Str), ("_are_changes_after" : PySem.Str), ("_is_change_after" : PySem.Str), ("check_zone" : PySem.Str), ("SUMS" : PySem.Str), ("ORDERS" : PySem.Str), ("GAPS" : PySem.Str), ("FOLDS" : PySem.Str), ("is_library" : PySem.Str), ("check_library" : PySem.Str), ("check_text" : PySem.Str), ("FIRST_INSTANT" : PySem.Str), ("Desk" : PySem.Str), ("_reading_told" : PySem.Str), ("_instant_told" : PySem.Str), ("_law_taken" : PySem.Str), ("_law_pick" : PySem.Str), ("_law_alike" : PySem.Str), ("_law_zone" : PySem.Str), ("_law_library" : PySem.Str), ("_law_offset" : PySem.Str), ("_law_instants" : PySem.Str), ("_law_before" : PySem.Str), ("_law_instant" : PySem.Str), ("_law_at" : PySem.Str), ("_law_read" : PySem.Str), ("_law_add" : PySem.Str), ("_law_spot" : PySem.Str), ("_law_hours" : PySem.Str), ("_law_wrong" : PySem.Str)]
theorem run0 (w : World) : HandSHeadRun.RunEq R (PySem.W.view R.prog [74]) hk ob 14000 loose (w.withFollow "special-get-raises" false) := by
  intro os
  kernel_rfl
theorem run1 (w : World) : HandSHeadRun.RunEq R (PySem.W.view R.prog [74]) hk ob 14000 loose (w.withFollow "special-get-raises" true) := by
  intro os
  kernel_rfl
theorem run (w : World) : HandSHeadRun.RunEq R (PySem.W.view R.prog [74]) hk ob 14000 loose w := PySem.W.byRow2 "special-get-raises" (P := fun w => HandSHeadRun.RunEq R (PySem.W.view R.prog [74]) hk ob 14000 loose w) run0 run1 w

local macro_rules | `(tactic| walk_at "sq") => `(tactic| first
  | assumption
  | exact SqT.of (by assumption)
  | exact SqL.of (by assumption)
  | ((refine Evl.ex_t (H := ?h0) ?e0 ?q0); (case e0 => assumption); (case q0 => walk_at "sq")))
local macro_rules | `(tactic| walk_at "eb") => `(tactic| first
  | ((with_reducible apply evV_var); exact rfl)
  | with_reducible exact evV_c
  | ((with_reducible apply evV_not) <;> walk_at "eb")
  | ((with_reducible apply evV_or) <;> walk_at "eb")
  | ((with_reducible apply evV_and) <;> walk_at "eb")
  | ((with_reducible apply evV_if) <;> walk_at "eb")
  | ((with_reducible apply evK_B) <;> walk_at "eb")
  | ((with_reducible apply evK_test) <;> walk_at "eb")
  | ((with_reducible apply evK_not) <;> walk_at "eb")
  | ((with_reducible apply evV_eqB) <;> walk_at "eb")
  | ((with_reducible apply evV_eqS) <;> walk_at "eb")
  | ((with_reducible apply evV_neS) <;> walk_at "eb"))
local macro_rules | `(tactic| walk_at "m") => `(tactic| first
  | with_reducible refine g_seq ?_
  | with_reducible refine g_asg ?_
  | ((with_reducible refine g_var (v := ?gv) ?ge ?_); (case ge => exact rfl))
  | with_reducible refine g_c ?_
  | with_reducible refine g_op ?_
  | with_reducible refine g_name ?_
  | with_reducible refine g_I0 ?_
  | with_reducible refine g_cons ?_
  | with_reducible refine g_nil ?_
  | with_reducible refine g_call ?_
  | with_reducible refine g_CB ?_
  | with_reducible refine g_test ?_
  | with_reducible refine g_B ?_
  | with_reducible refine g_bl ?_
  | with_reducible refine g_not ?_
  | with_reducible refine g_and ?_
  | with_reducible refine g_or ?_
  | with_reducible refine g_ret ?_
  | with_reducible refine g_retN ?_
  | with_reducible refine g_drop ?_
  | with_reducible refine g_next ?_
  | with_reducible refine g_brk ?_
  | with_reducible refine g_cont ?_
  | with_reducible refine g_un ?_
  | with_reducible refine g_U ?_
  | with_reducible refine g_for ?_
  | with_reducible refine g_iTup ?_
  | with_reducible refine g_iList ?_
  | with_reducible refine g_rng1 ?_
  | with_reducible refine g_rng2 ?_
  | with_reducible refine g_gcons ?_
  | with_reducible refine g_gnil ?_
  | with_reducible refine g_eqI ?_
  | with_reducible refine g_neI ?_
  | with_reducible refine g_eqS ?_
  | with_reducible refine g_neS ?_
  | with_reducible refine g_eqB ?_
  | with_reducible refine g_neB ?_
  | with_reducible refine g_lcTup ?_
  | with_reducible refine g_lcList ?_
  | with_reducible refine g_scList ?_
  | ((with_reducible refine g_ixT (xs := ?xs) (v := ?gv) ?hq ?he ?_); (case hq => walk_at "sq"); (case he => exact rfl))
  | ((with_reducible refine g_gtup (xs := ?xs) ?hq ?he ?_); (case hq => walk_at "sq"); (case he => exact rfl))
  | with_reducible refine g_yes ?_
  | with_reducible refine if_tt ?_
  | with_reducible refine if_ff ?_
  | with_reducible refine g_chain ?_
  | with_reducible refine g_pcons ?_
  | with_reducible refine g_pnil ?_
  | with_reducible refine g_dget2 ?_
  | with_reducible refine g_sub ?_
  | with_reducible refine g_isB ?_
  | with_reducible refine g_notB ?_
  | with_reducible refine g_isN ?_
  | with_reducible refine g_notN ?_
  | ((with_reducible refine g_I ?gi ?_); (case gi => (first
      | (show (0 : Int) < _; omega)
      | exact cmul_r (by omega) (by omega)
      | exact cmul_l (by omega) (by omega)
      | exact cdiv_of (by omega) (by omega)
      | exact cpow_of (by omega) (by omega) (by omega))))
  | with_reducible refine g_match ?_
  | with_reducible refine g_mstr ?_
  | ((with_reducible refine g_caseT ?e ?_); (case e => decide +kernel))
  | ((with_reducible refine g_caseF ?e ?_); (case e => decide +kernel))
  | with_reducible refine g_caseN ?_
  | with_reducible refine g_callH ?_
  | with_reducible refine if_nt ?_
  | with_reducible refine if_nf ?_
  | with_reducible refine g_asg2 ?_
  | with_reducible refine g_par3 ?_
  | with_reducible refine g_par3_ ?_
  | with_reducible refine g_int ?_
  | with_reducible refine g_intB ?_
  | with_reducible refine g_abs ?_
  | with_reducible refine g_par ?_
  | with_reducible refine g_par_ ?_
  | ((with_reducible refine if_t ?e ?_); (case e => decide +kernel))
  | ((with_reducible refine if_f ?e ?_); (case e => decide +kernel))
  | ((with_reducible refine if_t ?e ?_); (case e => exact rfl))
  | ((with_reducible refine if_f ?e ?_); (case e => exact rfl)))
local macro_rules | `(tactic| walk_at "n") => `(tactic| first
  | walk_at "m"
  | with_reducible refine g_tup ?_
  | with_reducible refine g_lst ?_
  | with_reducible refine g_orV ?_
  | with_reducible refine g_andV ?_
  | with_reducible refine g_notV ?_)
local macro_rules | `(tactic| walk_at "mm") => `(tactic| repeat walk_at "m")
local macro_rules | `(tactic| walk_at "g") => `(tactic| first | walk_at "n" | with_reducible refine g_if ?_ | with_reducible refine g_ifS ?_)
local macro_rules | `(tactic| walk_at "nn") => `(tactic| repeat walk_at "n")
local macro_rules | `(tactic| walk_at "gg") => `(tactic| repeat walk_at "g")
local macro_rules | `(tactic| walk_at "q") => `(tactic| first | walk_at "m" | with_reducible refine g_orV ?_ | with_reducible refine g_andV ?_ | with_reducible refine g_notV ?_ | with_reducible refine g_if ?_ | with_reducible refine g_ifS ?_)
local macro_rules | `(tactic| walk_at "qq") => `(tactic| repeat walk_at "q")
local macro_rules | `(tactic| walk_at "m") => `(tactic| first
  | with_reducible refine g_m1 ?_
  | with_reducible refine g_isS ?_
  | with_reducible refine g_lcStr ?_
  | with_reducible refine g_join ?_
  | with_reducible refine g_js ?_
  | with_reducible refine g_jsN ?_
  | with_reducible refine g_fmt ?_
  | with_reducible refine g_callLam ?_
  | with_reducible refine g_revT ?_)
local macro_rules | `(tactic| walk_at "m") => `(tactic| first
  | with_reducible refine g_sfld ?_
  | with_reducible refine g_fld ?_
  | with_reducible refine g_meth ?_
  | with_reducible refine g_make ?_
  | with_reducible refine g_prop ?_
  | with_reducible refine g_del ?_)

/-! ### the mathematics' functions -/
def offGo (t : Int) : Int → List (Int × Int) → Int
  | cur, [] => cur
  | cur, p :: r => if p.1 > t then cur else offGo t p.2 r
def off (z : Zone) (t : Int) : Int := offGo t z.1 z.2
theorem offGo_mem (t : Int) : ∀ (cs : List (Int × Int)) (cur : Int), offGo t cur cs ∈ cur :: cs.map (·.2)
  | [], cur => by simp [offGo]
  | p :: r, cur => by
    unfold offGo
    split
    · simp
    · have h := offGo_mem t r p.2
      simp only [List.map_cons, List.mem_cons] at h ⊢
      exact .inr h
def okC (before earliest : Int) (p : Int × Int) : Bool := decide (earliest ≤ p.1 ∧ p.1 ≤ 1000) && (decide (-15 ≤ p.2 ∧ p.2 ≤ 15) && decide (1 ≤ (p.2 - before).natAbs ∧ (p.2 - before).natAbs ≤ 3))
def okGo : Int → Int → List (Int × Int) → Bool
  | _, _, [] => true
  | before, earliest, p :: r => okC before earliest p && okGo p.2 (p.1 + 12) r
theorem okGo_cons (b e : Int) (p : Int × Int) (r : List (Int × Int)) : okGo b e (p :: r) = (okC b e p && okGo p.2 (p.1 + 12) r) := rfl
def okZ (z : Zone) : Bool := decide (-12 ≤ z.1 ∧ z.1 ≤ 12) && (decide (z.2.length ≤ 8) && okGo z.1 (-1000) z.2)
def kindGo : Int → Bool → Bool → List (Int × Int) → Bool × Bool
  | _, s, r, [] => (s, r)
  | before, s, r, p :: l => if p.2 > before then kindGo p.2 true r l else kindGo p.2 s true l
theorem kindGo_cons (b : Int) (s r : Bool) (p : Int × Int) (l : List (Int × Int)) : kindGo b s r (p :: l) = if p.2 > b then kindGo p.2 true r l else kindGo p.2 s true l := rfl
def kindOf (z : Zone) : Str := match kindGo z.1 false false z.2 with
  | (true, true) => "both"
  | (true, false) => "skips"
  | (false, true) => "repeats"
  | (false, false) => "fixed"
/-! ### promises -/
def sp_offset_in_force (K : PySem.W.Frag) : Sp := fun vs H Q _ => ∃ (zv : V) (z : Zone) (t : Int), vs = [zv, .int t] ∧ ZV K H zv z ∧ ∀ H', Ex H H' → Q (.int (off z t)) H'
def sp_instants_with (K : PySem.W.Frag) : Sp := fun vs H Q _ => ∃ (zv : V) (z : Zone) (t : Int), vs = [zv, .int t] ∧ ZV K H zv z ∧ z.2.length ≤ 8 ∧
  ∀ p H' (ns : List Int), H p = none → Ex H H' → TupD H' p (ns.map V.int) → ns.Pairwise (· < ·) → (∀ k, k ∈ ns ↔ k + off z k = t) → Q (.ref p) H'
def sp_is_between (K : PySem.W.Frag) : Sp := fun vs H Q _ => ∃ v lo hi : Int, vs = [.int v, .int lo, .int hi] ∧ Q (.bl (decide (lo ≤ v ∧ v ≤ hi))) H
def sp_is_tuple_of (K : PySem.W.Frag) : Sp := fun vs H Q _ => ∃ (n : Int) (a : Addr) (xs : List V), vs = [.int n, .ref a] ∧ SqT K H a xs ∧ Q (.bl (decide ((xs.length : Int) = n))) H
def sp_is_instant (K : PySem.W.Frag) : Sp := fun vs H Q _ => ∃ v : Int, vs = [.int v] ∧ Q (.bl (decide (-100000 ≤ v ∧ v ≤ 100000))) H
def sp_is_reading (K : PySem.W.Frag) : Sp := fun vs H Q _ => ∃ v : Int, vs = [.int v] ∧ Q (.bl (decide (-90000 ≤ v ∧ v ≤ 90000))) H
def sp_is_zone (K : PySem.W.Frag) : Sp := fun vs H Q _ => ∃ (zv : V) (z : Zone), vs = [zv] ∧ ZV K H zv z ∧ Q (.bl (okZ z)) H
def sp_are_changes_after (K : PySem.W.Frag) : Sp := fun vs H Q _ => ∃ (o : Int) (c : V) (cs : List (Int × Int)), vs = [.int o, c] ∧ CsV K H c cs ∧ Q (.bl (okGo o (-1000) cs)) H
def sp_is_change_after (K : PySem.W.Frag) : Sp := fun vs H Q _ => ∃ (b e : Int) (c : V) (p : Int × Int), vs = [.int b, .int e, c] ∧ PV K H c p ∧ Q (.bl (okC b e p)) H
def sp_check_zone (K : PySem.W.Frag) : Sp := fun vs H Q _ => ∃ (zv : V) (z : Zone), vs = [zv] ∧ ZV K H zv z ∧ okZ z = true ∧ Q .non H
def sp_check_instant (K : PySem.W.Frag) : Sp := fun vs H Q _ => ∃ v : Int, vs = [.int v] ∧ -100000 ≤ v ∧ v ≤ 100000 ∧ Q .non H
def sp_check_reading (K : PySem.W.Frag) : Sp := fun vs H Q _ => ∃ v : Int, vs = [.int v] ∧ -90000 ≤ v ∧ v ≤ 90000 ∧ Q .non H
def sp_offset_at (K : PySem.W.Frag) : Sp := fun vs H Q _ => ∃ (zv : V) (z : Zone) (t : Int), vs = [zv, .int t] ∧ ZV K H zv z ∧ okZ z = true ∧ -100000 ≤ t ∧ t ≤ 100000 ∧ ∀ H', Ex H H' → Q (.int (off z t)) H'
def sp_kind_of (K : PySem.W.Frag) : Sp := fun vs H Q _ => ∃ (zv : V) (z : Zone), vs = [zv] ∧ ZV K H zv z ∧ okZ z = true ∧ ∀ H', Ex H H' → Q (.str (kindOf z)) H'
def sp_instants_of (K : PySem.W.Frag) : Sp := fun vs H Q _ => ∃ (zv : V) (z : Zone) (t : Int), vs = [zv, .int t] ∧ ZV K H zv z ∧ okZ z = true ∧ -90000 ≤ t ∧ t ≤ 90000 ∧
  ∀ p H' (ns : List Int), H p = none → Ex H H' → TupD H' p (ns.map V.int) → ns.Pairwise (· < ·) → (∀ k, k ∈ ns ↔ k + off z k = t) → Q (.ref p) H'
section
variable {P : Program} {w : World} {K : PySem.W.Frag} {mg : Str → Option Value} {base : Heap}
theorem ok_offset_in_force (T : Txt w K mg) : FnOk P w K mg base CX0 1 T.f_offset_in_force.f T.f_offset_in_force.fd ["zone", "instant"] (sp_offset_in_force K) := by
  refine T.f_offset_in_force.F.ok sc_offset_in_force (fun vs H Q E h => ?_) (fun cdv A outer s H vs Q E hr h => ?_)
  · obtain ⟨zv, z, t, rfl, _⟩ := h
    rfl
  obtain ⟨zv, z, t, rfl, ⟨a, c, rfl, ha, b, xs, rfl, hb, hp⟩, k⟩ := h
  refine ⟨(tSeq (tAsg (tVar 0) (gTup K 2 (gCons (gName 2) (gCons (gName 3) gNil)))) (tSeq (tFor (iTup K (tVar 3)) (gTup K 2 (gCons (gName 4) (gCons (gName 5) gNil))) (tSeq (tIfS (tTest (tOp (rI0 fun i j => .bl (decide (j < i))) (tVar 4) (tVar 1))) tBreak tNext) (tAsg (tVar 5) (gName 2)))) (tRet (tVar 2)))),
    PSs.nox (pss_cons (ps_asg (pv 0) (pg_tup rfl (pgs_cons (pg_name (i := 2) sc_offset_in_force.nd rfl (Or.inl rfl)) (pgs_cons (pg_name (i := 3) sc_offset_in_force.nd rfl (Or.inl rfl)) pgs_nil)))) (pss_cons (ps_for PassesOwn.never rfl (pi_tup (pv 3)) (pg_tup rfl (pgs_cons (pg_name (i := 4) sc_offset_in_force.nd rfl (Or.inl rfl)) (pgs_cons (pg_name (i := 5) sc_offset_in_force.nd rfl (Or.inl rfl)) pgs_nil))) (pss_cons (ps_if (pt_cmpR op_gt (pv 4) (pv 1) (nomark _)) (pss_one ps_break) pss_nil) (pss_one (ps_set (i := 2) sc_offset_in_force.nd rfl (Or.inl rfl) (pv 5))))) (pss_one (ps_ret (pv 2))))), ?_⟩
  walk_at "gg"
  refine g_forT (F := PV K) hb hp (fun l σ' H' => Ex H H' ∧ ∃ cur s0 a0, offGo t cur l = off z t ∧ σ' = [some (.ref a), some (.int t), some (.int cur), some (.ref b), s0, a0])
    ⟨Evl.Ex.refl _, _, _, _, rfl, rfl⟩ (fun _ _ _ q => ⟨Evl.ex_t q.1 hb, fun _ _ h => h.tr (TrT.of q.1)⟩) ?_ ?_
  · rintro p l x σ' H' ⟨e, cur, s0, a0, q, rfl⟩ ⟨y, rfl, hy⟩
    unfold offGo at q
    walk_at "gg"
    refine if_d (fun c => ?_) (fun c => ?_)
    · walk_at "gg"
      rw [if_pos (by omega)] at q
      rw [q]
      exact k _ e
    · walk_at "gg"
      rw [if_neg (by omega)] at q
      exact ⟨e, _, _, _, q, rfl⟩
  · rintro σ' H' ⟨e, cur, s0, a0, q, rfl⟩
    walk_at "gg"
    rw [show cur = off z t from q]
    exact k _ e
theorem ok_instants_with (T : Txt w K mg) : FnOk P w K mg base CX0 2 T.f_instants_with.f T.f_instants_with.fd ["zone", "reading"] (sp_instants_with K) := by
  refine T.f_instants_with.F.ok sc_instants_with (fun vs H Q E h => ?_) (fun cdv A outer s H vs Q E hr h => ?_)
  · obtain ⟨zv, z, t, rfl, _⟩ := h
    rfl
  obtain ⟨zv, z, t, rfl, hz, h8, k⟩ := h
  obtain ⟨a, c, rfl, ha, b, xs, rfl, hb, hp⟩ := id hz
  refine ⟨(tSeq (tAsg (tVar 0) (gTup K 2 (gCons (gName 2) (gCons (gName 3) gNil)))) (tSeq (tAsg (tOp rCat (tLst (tCons (tVar 2) tNil)) (tLc (iTup K (tVar 3)) (gTup K 2 (gCons (gName 5) (gCons (gName 6) gNil))) tYes (tVar 6) [5, 6])) (gName 4)) (tRet (tCB (r_tupleF K) (tCons (tCB (rSortedSet w) (tCons (tScI w (iList K (tVar 4)) (gName 7) (tTest (tOp rEq (tCall (sp_offset_in_force K) [] E0 (tCons (tVar 0) (tCons (tOp (rI0 fun i j => .int (i - j)) (tVar 1) (tVar 7)) tNil))) (tVar 7))) (tOp (rI0 fun i j => .int (i - j)) (tVar 1) (tVar 7)) [7]) tNil)) tNil))))),
    PSs.nox (pss_cons (ps_asg (pv 0) (pg_tup rfl (pgs_cons (pg_name (i := 2) sc_instants_with.nd rfl (Or.inl rfl)) (pgs_cons (pg_name (i := 3) sc_instants_with.nd rfl (Or.inl rfl)) pgs_nil)))) (pss_cons (ps_set (i := 4) sc_instants_with.nd rfl (Or.inl rfl) (pe_op op_cat (pe_lst (pa_cons (pv 2) pa_nil)) (pe_lc (own := [("_", 5), ("after", 6)]) rfl sc_instants_with.nd (pi_tup (pv 3)) (blkOk_by (own := [("_", 5), ("after", 6)]) (N := ["zone", "reading", "offset", "changes", "offsets", "_", "after", "hours"]) (sc := (defScope s_instants_with)) (by decide +kernel)) (fun _ _ _ _ _ => (pg_tup rfl (pgs_cons (pg_name (i := 5) sc_instants_with.nd rfl (Or.inl rfl)) (pgs_cons (pg_name (i := 6) sc_instants_with.nd rfl (Or.inl rfl)) pgs_nil)))) (fun _ _ _ _ _ => pts_nil) (fun _ _ _ _ _ => (pv 6))))) (pss_one (ps_ret (pe_callTy call_tupleF (by rfl) T.z_tuple (by decide +kernel) (pa_cons (pe_callB (cr_sortedSet rfl) (by rfl) T.z_sorted (by decide +kernel) (pa_cons (pe_scI (own := [("hours", 7)]) rfl sc_instants_with.nd (pi_list (pv 4)) (blkOk_by (own := [("hours", 7)]) (N := ["zone", "reading", "offset", "changes", "offsets", "_", "after", "hours"]) (sc := (defScope s_instants_with)) (by decide +kernel)) (fun _ _ _ _ _ => (pg_name (i := 7) sc_instants_with.nd rfl (Or.inl rfl))) (fun _ _ _ _ _ => (pts_one (pt_cmpR op_eq (pe_call (ok_offset_in_force T) (hr.mono (by decide)) (by rfl) T.f_offset_in_force.g T.f_offset_in_force.F.kp T.f_offset_in_force.b .nil pass0 (pa_cons (pv 0) (pa_cons (pe_op op_sub (pv 1) (pv 7)) pa_nil))) (pv 7) (nomark _)))) (fun _ _ _ _ _ => (pe_op op_sub (pv 1) (pv 7)))) pa_nil)) pa_nil)))))), ?_⟩
  walk_at "gg"
  refine g_newL (by simp) fun l1 H1 n1 e1 h1 => ?_
  walk_at "gg"
  refine g_lcT (F := PV K) (Evl.ex_t e1 hb) (PVs.tr (TrT.of e1) hp) (by omega) (fun _ => true) (fun p => .int p.2) (fun _ _ _ e h => h.tr (TrT.of e)) ?_ ?_
  · rintro p x H2 e2 ⟨y, rfl, hy⟩ R S hR hS
    walk_at "gg"
    refine ⟨rfl, ?_⟩
    walk_at "gg"
    exact hS rfl _ (Evl.Ex.refl _)
  rintro l2 H2 n2 e2 h2
  rw [filt_all] at h2
  refine g_cat (e2 _ _ h1) h2 (by simp; omega) fun l3 H3 n3 e3 h3 => ?_
  have h3' : H3 l3 = some (.lst ((z.1 :: z.2.map (·.2)).map V.int)) := by
    rw [h3]
    simp
  walk_at "gg"
  have e03 : Ex H H3 := (e1.trans e2).trans e3
  refine g_scL (SqL.of h3') (by simp; omega) (fun h => decide (off z (t - h) = h)) (fun h => t - h) ?_ ?_
  · rintro h H4 e4 R S hR hS
    walk_at "gg"
    refine ⟨rfl, ?_⟩
    walk_at "gg"
    refine ⟨_, z, _, rfl, hz.tr (TrT.of (e03.trans e4)), fun H5 e5 => ?_⟩
    walk_at "gg"
    refine if_d (fun c => ?_) (fun c => ?_)
    · walk_at "gg"
      exact hS (decide_eq_true c) _ e5
    · exact hR (decide_eq_false c) _ e5
  rintro l4 H4 c n4 e4 hc h4
  walk_at "gg"
  refine g_sortedSet h4 (by simp at hc; omega) fun ns l5 H5 n5 e5 h5 hs hm => ?_
  walk_at "gg"
  refine g_tupleF (SqL.of h5) fun l6 H6 n6 e6 h6 => ?_
  refine k l6 H6 ns (Evl.fresh_back (e03.trans (e4.trans e5)) n6) (e03.trans (e4.trans (e5.trans e6))) h6 hs fun k => ?_
  rw [hm k]
  unfold mem_
  rw [List.take_length]
  simp only [List.any_eq_true, Bool.and_eq_true, decide_eq_true_eq]
  constructor
  · rintro ⟨h, _, h1, h2⟩
    rw [h2, h1]
    omega
  · intro q
    have m := offGo_mem k z.2 z.1
    rw [show offGo k z.1 z.2 = t - k by unfold off at q; omega] at m
    refine ⟨t - k, m, ?_, by omega⟩
    rw [show t - (t - k) = k by omega]
    omega
theorem ok_is_between (T : Txt w K mg) : FnOk P w K mg base CX0 1 T.f_is_between.f T.f_is_between.fd ["value", "low", "high"] (sp_is_between K) := by
  refine T.f_is_between.F.ok sc_is_between (fun vs H Q E h => ?_) (fun cdv A outer s H vs Q E hr h => ?_)
  · obtain ⟨v, lo, hi, rfl, _⟩ := h
    rfl
  obtain ⟨v, lo, hi, rfl, k⟩ := h
  refine ⟨(tSeq (tIfS (tOr (tNot (tB (tCB (rIsi K) (tCons (tVar 0) (tCons (tC (.ty "int")) tNil))))) (tB (tCB (rIsi K) (tCons (tVar 0) (tCons (tC (.ty "bool")) tNil))))) (tRet (tC (.bl false))) tNext) (tRet (tChain (rI0 fun i j => .bl (decide (i ≤ j))) (rI0 fun i j => .bl (decide (i ≤ j))) (tVar 1) (tVar 0) (tVar 2)))),
    PSs.nox (pss_cons (ps_if (PW.pt (pw_or (pt_not (pt_val (pe_callB call_isi (by rfl) T.z_isinstance (by decide +kernel) (pa_cons (pv 0) (pa_cons (pe_bltn (by rfl) T.z_int (by decide +kernel) rfl) pa_nil))))) (pw_or1 (pt_val (pe_callB call_isi (by rfl) T.z_isinstance (by decide +kernel) (pa_cons (pv 0) (pa_cons (pe_bltn (by rfl) T.z_bool (by decide +kernel) rfl) pa_nil))))))) (pss_one (ps_ret pe_bl)) pss_nil) (pss_one (ps_ret (pe_chain op_le op_le (pv 1) (pv 0) (pv 2))))), ?_⟩
  walk_at "gg"
  refine g_isi ty_int (by decide +kernel : kitB "int" "int" = some true) ?_
  walk_at "gg"
  refine g_isi ty_int (by decide +kernel : kitB "int" "bool" = some false) ?_
  walk_at "gg"
  refine if_d (fun c => ?_) (fun c => ?_)
  · walk_at "gg"
    rw [show decide (v ≤ hi) = decide (lo ≤ v ∧ v ≤ hi) from decide_eq_decide.mpr ⟨fun h => ⟨c, h⟩, fun h => h.2⟩]
    exact k
  · rw [decide_eq_false (fun h => c h.1)] at k
    exact k
theorem ok_is_tuple_of (T : Txt w K mg) : FnOk P w K mg base CX0 1 T.f_is_tuple_of.f T.f_is_tuple_of.fd ["many", "value"] (sp_is_tuple_of K) := by
  refine T.f_is_tuple_of.F.ok sc_is_tuple_of (fun vs H Q E h => ?_) (fun cdv A outer s H vs Q E hr h => ?_)
  · obtain ⟨v, a, xs, rfl, _⟩ := h
    rfl
  obtain ⟨v, a, xs, rfl, hx, k⟩ := h
  refine ⟨(tRet (tAndV (tCB (rIsi K) (tCons (tVar 1) (tCons (tC (.ty "tuple")) tNil))) (tOp rEq (tCB (Evl.rLenS K) (tCons (tVar 1) tNil)) (tVar 0)))),
    PSs.nox (pss_one (ps_ret (pe_and (pe_callB call_isi (by rfl) T.z_isinstance (by decide +kernel) (pa_cons (pv 1) (pa_cons (pe_bltn (by rfl) T.z_tuple (by decide +kernel) rfl) pa_nil))) (pe_one (pe_cmpR op_eq (pe_callB call_len_seq (by rfl) T.z_len (by decide +kernel) (pa_cons (pv 1) pa_nil)) (pv 0) (nomark _)))))), ?_⟩
  walk_at "gg"
  refine g_isi (ty_tup hx) (by decide +kernel : kitB "tuple" "tuple" = some true) ?_
  walk_at "gg"
  refine g_lenT hx ?_
  walk_at "gg"
  exact k
theorem ok_is_instant (T : Txt w K mg) : FnOk P w K mg base CX0 2 T.f_is_instant.f T.f_is_instant.fd ["value"] (sp_is_instant K) := by
  refine T.f_is_instant.F.ok sc_is_instant (fun vs H Q E h => ?_) (fun cdv A outer s H vs Q E hr h => ?_)
  · obtain ⟨v, rfl, _⟩ := h
    rfl
  obtain ⟨v, rfl, k⟩ := h
  refine ⟨(tRet (tCall (sp_is_between K) [] E0 (tCons (tVar 0) (tCons (tUn (rU fun i => .int (-i)) (tC (.int 100000))) (tCons (tC (.int 100000)) tNil))))),
    PSs.nox (pss_one (ps_ret (pe_call (ok_is_between T) (hr.mono (by decide)) (by rfl) T.f_is_between.g T.f_is_between.F.kp T.f_is_between.b .nil pass0 (pa_cons (pv 0) (pa_cons (pe_un un_neg (pe_glob (by rfl) T.c_MOST_INSTANT ⟨_, rfl⟩)) (pa_cons (pe_glob (by rfl) T.c_MOST_INSTANT ⟨_, rfl⟩) pa_nil)))))), ?_⟩
  walk_at "gg"
  exact ⟨_, _, _, rfl, k⟩
theorem ok_is_reading (T : Txt w K mg) : FnOk P w K mg base CX0 2 T.f_is_reading.f T.f_is_reading.fd ["value"] (sp_is_reading K) := by
  refine T.f_is_reading.F.ok sc_is_reading (fun vs H Q E h => ?_) (fun cdv A outer s H vs Q E hr h => ?_)
  · obtain ⟨v, rfl, _⟩ := h
    rfl
  obtain ⟨v, rfl, k⟩ := h
  refine ⟨(tRet (tCall (sp_is_between K) [] E0 (tCons (tVar 0) (tCons (tUn (rU fun i => .int (-i)) (tC (.int 90000))) (tCons (tC (.int 90000)) tNil))))),
    PSs.nox (pss_one (ps_ret (pe_call (ok_is_between T) (hr.mono (by decide)) (by rfl) T.f_is_between.g T.f_is_between.F.kp T.f_is_between.b .nil pass0 (pa_cons (pv 0) (pa_cons (pe_un un_neg (pe_glob (by rfl) T.c_MOST_READING ⟨_, rfl⟩)) (pa_cons (pe_glob (by rfl) T.c_MOST_READING ⟨_, rfl⟩) pa_nil)))))), ?_⟩
  walk_at "gg"
  exact ⟨_, _, _, rfl, k⟩
theorem ok_is_change_after (T : Txt w K mg) : FnOk P w K mg base CX0 2 T.f_is_change_after.f T.f_is_change_after.fd ["before", "earliest", "value"] (sp_is_change_after K) := by
  refine T.f_is_change_after.F.ok sc_is_change_after (fun vs H Q E h => ?_) (fun cdv A outer s H vs Q E hr h => ?_)
  · obtain ⟨b, e, c, p, rfl, _⟩ := h
    rfl
  obtain ⟨b, e, c, p, rfl, ⟨a, rfl, ha⟩, k⟩ := h
  unfold okC at k
  refine ⟨(tSeq (tIfS (tNot (tB (tCall (sp_is_tuple_of K) [] E0 (tCons (tC (.int 2)) (tCons (tVar 2) tNil))))) (tRet (tC (.bl false))) tNext) (tSeq (tAsg (tVar 2) (gTup K 2 (gCons (gName 3) (gCons (gName 4) gNil)))) (tSeq (tIfS (tNot (tB (tCall (sp_is_between K) [] E0 (tCons (tVar 3) (tCons (tVar 1) (tCons (tC (.int 1000)) tNil)))))) (tRet (tC (.bl false))) tNext) (tSeq (tIfS (tNot (tB (tCall (sp_is_between K) [] E0 (tCons (tVar 4) (tCons (tUn (rU fun i => .int (-i)) (tC (.int 15))) (tCons (tC (.int 15)) tNil)))))) (tRet (tC (.bl false))) tNext) (tRet (tChain (rI0 fun i j => .bl (decide (i ≤ j))) (rI0 fun i j => .bl (decide (i ≤ j))) (tC (.int 1)) (tCB r_abs (tCons (tOp (rI0 fun i j => .int (i - j)) (tVar 4) (tVar 0)) tNil)) (tC (.int 3)))))))),
    PSs.nox (pss_cons (ps_if (pt_not (pt_val (pe_call (ok_is_tuple_of T) (hr.mono (by decide)) (by rfl) T.f_is_tuple_of.g T.f_is_tuple_of.F.kp T.f_is_tuple_of.b .nil pass0 (pa_cons pe_int (pa_cons (pv 2) pa_nil))))) (pss_one (ps_ret pe_bl)) pss_nil) (pss_cons (ps_asg (pv 2) (pg_tup rfl (pgs_cons (pg_name (i := 3) sc_is_change_after.nd rfl (Or.inl rfl)) (pgs_cons (pg_name (i := 4) sc_is_change_after.nd rfl (Or.inl rfl)) pgs_nil)))) (pss_cons (ps_if (pt_not (pt_val (pe_call (ok_is_between T) (hr.mono (by decide)) (by rfl) T.f_is_between.g T.f_is_between.F.kp T.f_is_between.b .nil pass0 (pa_cons (pv 3) (pa_cons (pv 1) (pa_cons (pe_glob (by rfl) T.c_MOST_CHANGE_INSTANT ⟨_, rfl⟩) pa_nil)))))) (pss_one (ps_ret pe_bl)) pss_nil) (pss_cons (ps_if (pt_not (pt_val (pe_call (ok_is_between T) (hr.mono (by decide)) (by rfl) T.f_is_between.g T.f_is_between.F.kp T.f_is_between.b .nil pass0 (pa_cons (pv 4) (pa_cons (pe_un un_neg (pe_glob (by rfl) T.c_MOST_LATER_OFFSET ⟨_, rfl⟩)) (pa_cons (pe_glob (by rfl) T.c_MOST_LATER_OFFSET ⟨_, rfl⟩) pa_nil)))))) (pss_one (ps_ret pe_bl)) pss_nil) (pss_one (ps_ret (pe_chain op_le op_le pe_int (pe_callB call_abs (by rfl) T.z_abs (by decide +kernel) (pa_cons (pe_op op_sub (pv 4) (pv 0)) pa_nil)) (pe_glob (by rfl) T.c_MOST_STEP ⟨_, rfl⟩)))))))), ?_⟩
  walk_at "gg"
  refine ⟨_, _, _, rfl, ha, ?_⟩
  rw [show decide (((([V.int p.1, V.int p.2] : List V).length : Nat) : Int) = 2) = true from rfl]
  walk_at "gg"
  refine ⟨_, _, _, rfl, ?_⟩
  walk_at "gg"
  by_cases c1 : e ≤ p.1 ∧ p.1 ≤ 1000
  · rw [decide_eq_true c1] at k ⊢
    walk_at "gg"
    refine ⟨_, _, _, rfl, ?_⟩
    walk_at "gg"
    by_cases c2 : -15 ≤ p.2 ∧ p.2 ≤ 15
    · rw [decide_eq_true c2] at k ⊢
      walk_at "gg"
      refine if_d (fun c3 => ?_) (fun c3 => ?_)
      · walk_at "gg"
        rw [show decide ((if p.2 - b < 0 then -(p.2 - b) else p.2 - b) ≤ 3) = decide (1 ≤ (p.2 - b).natAbs ∧ (p.2 - b).natAbs ≤ 3) from decide_eq_decide.mpr (by split at c3 <;> split <;> omega)]
        exact k
      · rw [show (decide (1 ≤ (p.2 - b).natAbs ∧ (p.2 - b).natAbs ≤ 3)) = false from decide_eq_false (by split at c3 <;> omega)] at k
        exact k
    · rw [decide_eq_false c2] at k ⊢
      walk_at "gg"
      exact k
  · rw [decide_eq_false c1] at k ⊢
    walk_at "gg"
    exact k
theorem ok_are_changes_after (T : Txt w K mg) : FnOk P w K mg base CX0 3 T.f_are_changes_after.f T.f_are_changes_after.fd ["offset", "changes"] (sp_are_changes_after K) := by
  refine T.f_are_changes_after.F.ok sc_are_changes_after (fun vs H Q E h => ?_) (fun cdv A outer s H vs Q E hr h => ?_)
  · obtain ⟨o, c, cs, rfl, _⟩ := h
    rfl
  obtain ⟨o, c, cs, rfl, ⟨a, xs, rfl, ha, hp⟩, k⟩ := h
  refine ⟨(tSeq (tAsg (tUn (rU fun i => .int (-i)) (tC (.int 1000))) (gName 2)) (tSeq (tFor (iTup K (tVar 1)) (gName 3) (tSeq (tIfS (tNot (tB (tCall (sp_is_change_after K) [] E0 (tCons (tVar 0) (tCons (tVar 2) (tCons (tVar 3) tNil)))))) (tRet (tC (.bl false))) tNext) (tSeq (tAsg (tVar 3) (gTup K 2 (gCons (gName 4) (gCons (gName 0) gNil)))) (tAsg (tOp (rI0 fun i j => .int (i + j)) (tVar 4) (tC (.int 12))) (gName 2))))) (tRet (tC (.bl true))))),
    PSs.nox (pss_cons (ps_set (i := 2) sc_are_changes_after.nd rfl (Or.inl rfl) (pe_un un_neg (pe_glob (by rfl) T.c_MOST_CHANGE_INSTANT ⟨_, rfl⟩))) (pss_cons (ps_for PassesOwn.never rfl (pi_tup (pv 1)) (pg_name (i := 3) sc_are_changes_after.nd rfl (Or.inl rfl)) (pss_cons (ps_if (pt_not (pt_val (pe_call (ok_is_change_after T) (hr.mono (by decide)) (by rfl) T.f_is_change_after.g T.f_is_change_after.F.kp T.f_is_change_after.b .nil pass0 (pa_cons (pv 0) (pa_cons (pv 2) (pa_cons (pv 3) pa_nil)))))) (pss_one (ps_ret pe_bl)) pss_nil) (pss_cons (ps_asg (pv 3) (pg_tup rfl (pgs_cons (pg_name (i := 4) sc_are_changes_after.nd rfl (Or.inl rfl)) (pgs_cons (pg_name (i := 0) sc_are_changes_after.nd rfl (Or.inl rfl)) pgs_nil)))) (pss_one (ps_set (i := 2) sc_are_changes_after.nd rfl (Or.inl rfl) (pe_op op_add (pv 4) (pe_glob (by rfl) T.c_LEAST_DISTANCE ⟨_, rfl⟩))))))) (pss_one (ps_ret pe_bl)))), ?_⟩
  walk_at "gg"
  refine g_forT (F := PV K) ha hp (fun l σ' H' => H' = H ∧ ∃ o' e' c0 i0, okGo o' e' l = okGo o (-1000) cs ∧ σ' = [some (.int o'), some (.ref a), some (.int e'), c0, i0])
    ⟨rfl, _, _, _, _, rfl, rfl⟩ (fun _ _ _ q => by rw [q.1]; exact ⟨ha, fun _ _ h => h⟩) ?_ ?_
  · rintro p l x σ' H' ⟨rfl, o', e', c0, i0, q, rfl⟩ hv
    obtain ⟨y, rfl, hy⟩ := id hv
    rw [okGo_cons] at q
    walk_at "gg"
    refine ⟨_, _, _, _, rfl, hv, ?_⟩
    walk_at "gg"
    cases c1 : okC o' e' p with
    | true =>
      rw [c1] at q
      walk_at "gg"
      exact ⟨rfl, _, _, _, _, q, rfl⟩
    | false =>
      rw [c1] at q
      walk_at "gg"
      rw [← q] at k
      exact k
  · rintro σ' H' ⟨rfl, o', e', c0, i0, q, rfl⟩
    walk_at "gg"
    rw [← q] at k
    exact k
theorem ok_is_zone (T : Txt w K mg) : FnOk P w K mg base CX0 4 T.f_is_zone.f T.f_is_zone.fd ["value"] (sp_is_zone K) := by
  refine T.f_is_zone.F.ok sc_is_zone (fun vs H Q E h => ?_) (fun cdv A outer s H vs Q E hr h => ?_)
  · obtain ⟨zv, z, rfl, _⟩ := h
    rfl
  obtain ⟨zv, z, rfl, ⟨a, c, rfl, ha, hc⟩, k⟩ := h
  obtain ⟨b, xs, rfl, hb, hp⟩ := id hc
  unfold okZ at k
  refine ⟨(tSeq (tIfS (tNot (tB (tCall (sp_is_tuple_of K) [] E0 (tCons (tC (.int 2)) (tCons (tVar 0) tNil))))) (tRet (tC (.bl false))) tNext) (tSeq (tAsg (tVar 0) (gTup K 2 (gCons (gName 1) (gCons (gName 2) gNil)))) (tSeq (tIfS (tNot (tB (tCall (sp_is_between K) [] E0 (tCons (tVar 1) (tCons (tUn (rU fun i => .int (-i)) (tC (.int 12))) (tCons (tC (.int 12)) tNil)))))) (tRet (tC (.bl false))) tNext) (tSeq (tIfS (tOr (tNot (tB (tCB (rIsi K) (tCons (tVar 2) (tCons (tC (.ty "tuple")) tNil))))) (tTest (tOp (rI0 fun i j => .bl (decide (j < i))) (tCB (Evl.rLenS K) (tCons (tVar 2) tNil)) (tC (.int 8))))) (tRet (tC (.bl false))) tNext) (tRet (tCall (sp_are_changes_after K) [] E0 (tCons (tVar 1) (tCons (tVar 2) tNil)))))))),
    PSs.nox (pss_cons (ps_if (pt_not (pt_val (pe_call (ok_is_tuple_of T) (hr.mono (by decide)) (by rfl) T.f_is_tuple_of.g T.f_is_tuple_of.F.kp T.f_is_tuple_of.b .nil pass0 (pa_cons pe_int (pa_cons (pv 0) pa_nil))))) (pss_one (ps_ret pe_bl)) pss_nil) (pss_cons (ps_asg (pv 0) (pg_tup rfl (pgs_cons (pg_name (i := 1) sc_is_zone.nd rfl (Or.inl rfl)) (pgs_cons (pg_name (i := 2) sc_is_zone.nd rfl (Or.inl rfl)) pgs_nil)))) (pss_cons (ps_if (pt_not (pt_val (pe_call (ok_is_between T) (hr.mono (by decide)) (by rfl) T.f_is_between.g T.f_is_between.F.kp T.f_is_between.b .nil pass0 (pa_cons (pv 1) (pa_cons (pe_un un_neg (pe_glob (by rfl) T.c_MOST_FIRST_OFFSET ⟨_, rfl⟩)) (pa_cons (pe_glob (by rfl) T.c_MOST_FIRST_OFFSET ⟨_, rfl⟩) pa_nil)))))) (pss_one (ps_ret pe_bl)) pss_nil) (pss_cons (ps_if (PW.pt (pw_or (pt_not (pt_val (pe_callB call_isi (by rfl) T.z_isinstance (by decide +kernel) (pa_cons (pv 2) (pa_cons (pe_bltn (by rfl) T.z_tuple (by decide +kernel) rfl) pa_nil))))) (pw_or1 (pt_cmpR op_gt (pe_callB call_len_seq (by rfl) T.z_len (by decide +kernel) (pa_cons (pv 2) pa_nil)) (pe_glob (by rfl) T.c_MOST_CHANGES ⟨_, rfl⟩) (nomark _))))) (pss_one (ps_ret pe_bl)) pss_nil) (pss_one (ps_ret (pe_call (ok_are_changes_after T) (hr.mono (by decide)) (by rfl) T.f_are_changes_after.g T.f_are_changes_after.F.kp T.f_are_changes_after.b .nil pass0 (pa_cons (pv 1) (pa_cons (pv 2) pa_nil))))))))), ?_⟩
  walk_at "gg"
  refine ⟨_, _, _, rfl, ha, ?_⟩
  rw [show decide (((([V.int z.1, V.ref b] : List V).length : Nat) : Int) = 2) = true from rfl]
  walk_at "gg"
  refine ⟨_, _, _, rfl, ?_⟩
  walk_at "gg"
  by_cases c1 : -12 ≤ z.1 ∧ z.1 ≤ 12
  · rw [decide_eq_true c1] at k ⊢
    walk_at "gg"
    refine g_isi (ty_tup hb) (by decide +kernel : kitB "tuple" "tuple" = some true) ?_
    walk_at "gg"
    refine g_lenT hb ?_
    walk_at "gg"
    rw [hp.len]
    refine if_d (fun c2 => ?_) (fun c2 => ?_)
    · walk_at "gg"
      rw [decide_eq_false (by omega : ¬ z.2.length ≤ 8)] at k
      exact k
    · walk_at "gg"
      rw [decide_eq_true (by omega : z.2.length ≤ 8)] at k
      exact ⟨_, _, _, rfl, hc, k⟩
  · rw [decide_eq_false c1] at k ⊢
    walk_at "gg"
    exact k
theorem ok_check_zone (T : Txt w K mg) : FnOk P w K mg base CX0 5 T.f_check_zone.f T.f_check_zone.fd ["value"] (sp_check_zone K) := by
  refine T.f_check_zone.F.ok sc_check_zone (fun vs H Q E h => ?_) (fun cdv A outer s H vs Q E hr h => ?_)
  · obtain ⟨zv, z, rfl, _⟩ := h
    rfl
  obtain ⟨zv, z, rfl, hz, c, k⟩ := h
  refine ⟨(tIfS (tNot (tB (tCall (sp_is_zone K) [] E0 (tCons (tVar 0) tNil)))) tNever tNext),
    PSs.nox (pss_one (ps_if (pt_not (pt_val (pe_call (ok_is_zone T) (hr.mono (by decide)) (by rfl) T.f_is_zone.g T.f_is_zone.F.kp T.f_is_zone.b .nil pass0 (pa_cons (pv 0) pa_nil)))) (pss_one ps_never) pss_nil)), ?_⟩
  walk_at "gg"
  refine ⟨_, _, rfl, hz, ?_⟩
  rw [c]
  walk_at "gg"
  exact k
end
local macro_rules | `(tactic| walk_at "m") => `(tactic| first
  | with_reducible refine g_m1 ?_
  | with_reducible refine g_isS ?_
  | with_reducible refine g_lcStr ?_
  | with_reducible refine g_join ?_
  | with_reducible refine g_js ?_
  | with_reducible refine g_jsN ?_
  | with_reducible refine g_fmt ?_
  | with_reducible refine g_callLam ?_
  | with_reducible refine g_revT ?_)
local macro_rules | `(tactic| walk_at "m") => `(tactic| first
  | with_reducible refine g_sfld ?_
  | with_reducible refine g_fld ?_
  | with_reducible refine g_meth ?_
  | with_reducible refine g_make ?_
  | with_reducible refine g_prop ?_
  | with_reducible refine g_del ?_)

/-! ### draws -/
def sp_law_taken (K : PySem.W.Frag) : Sp := fun vs H Q _ => ∃ (ρ : Rw) (n : Int), vs = [.ref ρ.1, .int n] ∧ Row K H ρ ∧ 0 < n ∧ n ≤ 1000000 ∧
  ∀ v H', 0 ≤ v → v < n → Fr ρ.1 H H' → Row K H' ρ → Q (.int v) H'
def sp_law_pick (K : PySem.W.Frag) : Sp := fun vs H Q _ => ∃ (ρ : Rw) (k : Addr) (xs : List V), vs = [.ref ρ.1, .ref k] ∧ Row K H ρ ∧ H k = some (.lst xs) ∧ k ≠ ρ.1 ∧ 0 < xs.length ∧ xs.length ≤ 1000 ∧
  ∀ x H', x ∈ xs → Fr ρ.1 H H' → Row K H' ρ → Q x H'
section
variable {P : Program} {w : World} {K : PySem.W.Frag} {mg : Str → Option Value} {base : Heap}
theorem ok_law_taken (T : Txt w K mg) : FnOk P w K mg base CX0 1 T.f_law_taken.f T.f_law_taken.fd ["row", "many"] (sp_law_taken K) := by
  refine T.f_law_taken.F.ok sc_law_taken (fun vs H Q E h => ?_) (fun cdv A outer s H vs Q E hr h => ?_)
  · obtain ⟨ρ, n, rfl, _⟩ := h
    rfl
  obtain ⟨ρ, n, rfl, ⟨i, sd, t, hl, hs, b1, b2, b3⟩, n1, n2, k⟩ := h
  have hm := fun (v : Int) => And.intro (Int.emod_nonneg v (by omega : n ≠ 0)) (Int.emod_lt_of_pos v n1)
  have m31 := fun (v : Int) => And.intro (Int.emod_nonneg v (by omega : (2147483647 : Int) ≠ 0)) (Int.emod_lt_of_pos v (by omega : (0 : Int) < 2147483647))
  refine ⟨(tSeq (tIfS (tTest (tOp (rI0 fun i j => .bl (decide (j < i))) (tOp (rIxL K) (tVar 0) (tC (.int 3))) (tC (.int 0)))) (tSeq (tAsg (tOp (rI (fun _ j => 0 < j) fun i j => .int (i % j)) (tCB r_int (tCons (tOp (rIxL K) (tVar 0) (tC (.int 3))) tNil)) (tVar 1)) (gName 2)) (tSeq (tAsg (tOp (rI CDivW fun i j => .int (i / j)) (tOp (rIxL K) (tVar 0) (tC (.int 3))) (tVar 1)) (gSub (tVar 0) (tC (.int 3)) rSetL)) (tRet (tVar 2)))) tNext) (tSeq (tAsg (tOp (rI0 fun i j => .int (i + j)) (tOp (rIxL K) (tVar 0) (tC (.int 1))) (tC (.int 1))) (gSub (tVar 0) (tC (.int 1)) rSetL)) (tSeq (tIfS (tTest (tOp (rI0 fun i j => .bl (decide (j < i))) (tOp (rIxL K) (tVar 0) (tC (.int 1))) (tCB (Evl.rLenS K) (tCons (tOp (rIxL K) (tVar 0) (tC (.int 0))) tNil)))) (tSeq (tAsg (tOp (rI (fun _ j => 0 < j) fun i j => .int (i % j)) (tCB r_int (tCons (tOp (rI0 fun i j => .int (i + j)) (tOp (rI CMul fun i j => .int (i * j)) (tOp (rIxL K) (tVar 0) (tC (.int 2))) (tC (.int 48271))) (tC (.int 11))) tNil)) (tC (.int 2147483647))) (gSub (tVar 0) (tC (.int 2)) rSetL)) (tRet (tOp (rI (fun _ j => 0 < j) fun i j => .int (i % j)) (tCB r_int (tCons (tOp (rI CDivW fun i j => .int (i / j)) (tOp (rIxL K) (tVar 0) (tC (.int 2))) (tC (.int 7))) tNil)) (tVar 1)))) tNext) (tSeq (tAsg (tOp (rIxL K) (tOp (rIxL K) (tVar 0) (tC (.int 0))) (tOp (rI0 fun i j => .int (i - j)) (tOp (rIxL K) (tVar 0) (tC (.int 1))) (tC (.int 1)))) (gName 3)) (tSeq (tAsg (tOp (rI (fun _ j => 0 < j) fun i j => .int (i % j)) (tCB r_int (tCons (tOp (rI0 fun i j => .int (i + j)) (tOp (rI0 fun i j => .int (i + j)) (tOp (rI CMul fun i j => .int (i * j)) (tOp (rIxL K) (tVar 0) (tC (.int 2))) (tC (.int 48271))) (tVar 3)) (tC (.int 11))) tNil)) (tC (.int 2147483647))) (gSub (tVar 0) (tC (.int 2)) rSetL)) (tSeq (tIfS (tTest (tOp (rI0 fun i j => .bl (decide (j ≤ i))) (tVar 3) (tOp (rI CPow fun i j => .int (i ^ j.toNat)) (tC (.int 10)) (tC (.int 18))))) (tAsg (tOp (rI CDivW fun i j => .int (i / j)) (tVar 3) (tVar 1)) (gSub (tVar 0) (tC (.int 3)) rSetL)) tNext) (tRet (tOp (rI (fun _ j => 0 < j) fun i j => .int (i % j)) (tCB r_int (tCons (tVar 3) tNil)) (tVar 1))))))))),
    PSs.nox (pss_cons (ps_if (pt_cmpR op_gt (pe_ix ix_list (pv 0) pe_int (fun _ _ => rfl)) pe_int (nomark _)) (pss_cons (ps_set (i := 2) sc_law_taken.nd rfl (Or.inl rfl) (pe_op op_mod (pe_callTy call_int1 (by rfl) T.z_int (by decide +kernel) (pa_cons (pe_ix ix_list (pv 0) pe_int (fun _ _ => rfl)) pa_nil)) (pv 1))) (pss_cons (ps_asg (pe_op op_fdivW (pe_ix ix_list (pv 0) pe_int (fun _ _ => rfl)) (pv 1)) (pg_sub (pv 0) pe_int set_list)) (pss_one (ps_ret (pv 2))))) pss_nil) (pss_cons (ps_asg (pe_op op_add (pe_ix ix_list (pv 0) pe_int (fun _ _ => rfl)) pe_int) (pg_sub (pv 0) pe_int set_list)) (pss_cons (ps_if (pt_cmpR op_gt (pe_ix ix_list (pv 0) pe_int (fun _ _ => rfl)) (pe_callB call_len_seq (by rfl) T.z_len (by decide +kernel) (pa_cons (pe_ix ix_list (pv 0) pe_int (fun _ _ => rfl)) pa_nil)) (nomark _)) (pss_cons (ps_asg (pe_op op_mod (pe_callTy call_int1 (by rfl) T.z_int (by decide +kernel) (pa_cons (pe_op op_add (pe_op op_mul (pe_ix ix_list (pv 0) pe_int (fun _ _ => rfl)) pe_int) pe_int) pa_nil)) pe_int) (pg_sub (pv 0) pe_int set_list)) (pss_one (ps_ret (pe_op op_mod (pe_callTy call_int1 (by rfl) T.z_int (by decide +kernel) (pa_cons (pe_op op_fdivW (pe_ix ix_list (pv 0) pe_int (fun _ _ => rfl)) pe_int) pa_nil)) (pv 1))))) pss_nil) (pss_cons (ps_set (i := 3) sc_law_taken.nd rfl (Or.inl rfl) (pe_ix ix_list (pe_ix ix_list (pv 0) pe_int (fun _ _ => rfl)) (pe_op op_sub (pe_ix ix_list (pv 0) pe_int (fun _ _ => rfl)) pe_int) (fun _ _ => rfl))) (pss_cons (ps_asg (pe_op op_mod (pe_callTy call_int1 (by rfl) T.z_int (by decide +kernel) (pa_cons (pe_op op_add (pe_op op_add (pe_op op_mul (pe_ix ix_list (pv 0) pe_int (fun _ _ => rfl)) pe_int) (pv 3)) pe_int) pa_nil)) pe_int) (pg_sub (pv 0) pe_int set_list)) (pss_cons (ps_if (pt_cmpR op_ge (pv 3) (pe_op op_pow pe_int pe_int) (nomark _)) (pss_one (ps_asg (pe_op op_fdivW (pv 3) (pv 1)) (pg_sub (pv 0) pe_int set_list))) pss_nil) (pss_one (ps_ret (pe_op op_mod (pe_callTy call_int1 (by rfl) T.z_int (by decide +kernel) (pa_cons (pv 3) pa_nil)) (pv 1)))))))))), ?_⟩
  walk_at "gg"
  refine g_ixL (SqL.of hl) rfl ?_
  walk_at "gg"
  refine if_d (fun c => ?_) (fun c => ?_)
  · walk_at "gg"
    refine g_ixL (SqL.of hl) rfl ?_
    walk_at "gg"
    refine g_ixL (SqL.of hl) rfl ?_
    walk_at "gg"
    refine g_setL hl rfl fun H1 e1 h1 => ?_
    walk_at "gg"
    exact k _ H1 (hm _).1 (hm _).2 e1 ⟨i, sd, _, h1, hs.fr e1, b1, b2, b3⟩
  · walk_at "gg"
    refine g_ixL (SqL.of hl) rfl ?_
    walk_at "gg"
    refine g_setL hl rfl fun H1 e1 h1 => ?_
    walk_at "gg"
    refine g_ixL (SqL.of h1) rfl ?_
    walk_at "gg"
    refine g_ixL (SqL.of h1) rfl ?_
    walk_at "gg"
    refine g_lenL (hs H1 e1) ?_
    walk_at "gg"
    rw [List.length_map]
    refine if_d (fun c2 => ?_) (fun c2 => ?_)
    · walk_at "gg"
      refine g_ixL (SqL.of h1) rfl ?_
      walk_at "gg"
      refine g_setL h1 rfl fun H2 e2 h2 => ?_
      walk_at "gg"
      refine g_ixL (SqL.of h2) rfl ?_
      walk_at "gg"
      have z := m31 (sd * 48271 + 11)
      exact k _ H2 (hm _).1 (hm _).2 (e1.trans e2) ⟨_, _, _, h2, hs.fr (e1.trans e2), by omega, z.1, by omega⟩
    · walk_at "gg"
      refine g_ixL (SqL.of h1) rfl ?_
      walk_at "gg"
      refine g_ixL (SqL.of h1) rfl ?_
      walk_at "gg"
      have lt : i.toNat < ρ.2.2.length := by omega
      refine g_ixL (hs H1 e1) (v := .int ρ.2.2[i.toNat]) (atI_of (by omega) ?_) ?_
      · rw [List.getElem?_map, show i + 1 - 1 = i by omega, List.getElem?_eq_getElem lt]
        rfl
      generalize ρ.2.2[i.toNat] = cell
      walk_at "gg"
      refine g_ixL (SqL.of h1) rfl ?_
      walk_at "gg"
      refine g_setL h1 rfl fun H2 e2 h2 => ?_
      walk_at "gg"
      have z := m31 (sd * 48271 + cell + 11)
      refine if_d (fun c3 => ?_) (fun c3 => ?_)
      · walk_at "gg"
        refine g_setL h2 rfl fun H3 e3 h3 => ?_
        walk_at "gg"
        exact k _ H3 (hm _).1 (hm _).2 ((e1.trans e2).trans e3) ⟨_, _, _, h3, hs.fr ((e1.trans e2).trans e3), by omega, z.1, by omega⟩
      · walk_at "gg"
        exact k _ H2 (hm _).1 (hm _).2 (e1.trans e2) ⟨_, _, _, h2, hs.fr (e1.trans e2), by omega, z.1, by omega⟩
theorem ok_law_pick (T : Txt w K mg) : FnOk P w K mg base CX0 2 T.f_law_pick.f T.f_law_pick.fd ["row", "kinds"] (sp_law_pick K) := by
  refine T.f_law_pick.F.ok sc_law_pick (fun vs H Q E h => ?_) (fun cdv A outer s H vs Q E hr h => ?_)
  · obtain ⟨ρ, kk, xs, rfl, _⟩ := h
    rfl
  obtain ⟨ρ, kk, xs, rfl, hR, hk, ne, l1, l2, k⟩ := h
  refine ⟨(tRet (tOp (rIxL K) (tVar 1) (tCall (sp_law_taken K) [] E0 (tCons (tVar 0) (tCons (tCB (Evl.rLenS K) (tCons (tVar 1) tNil)) tNil))))),
    PSs.nox (pss_one (ps_ret (pe_ix ix_list (pv 1) (pe_call (ok_law_taken T) (hr.mono (by decide)) (by rfl) T.f_law_taken.g T.f_law_taken.F.kp T.f_law_taken.b .nil pass0 (pa_cons (pv 0) (pa_cons (pe_callB call_len_seq (by rfl) T.z_len (by decide +kernel) (pa_cons (pv 1) pa_nil)) pa_nil))) (fun _ _ => rfl)))), ?_⟩
  walk_at "gg"
  refine g_lenL (SqL.of hk) ?_
  walk_at "gg"
  refine ⟨ρ, _, rfl, hR, by omega, by omega, fun v H1 v0 v1 e1 R1 => ?_⟩
  have lt : v.toNat < xs.length := by omega
  refine g_ixL (SqL.of (e1 _ _ ne hk)) (atI_of v0 (List.getElem?_eq_getElem lt)) ?_
  exact k _ H1 (List.getElem_mem lt) e1 R1
end
local macro_rules | `(tactic| walk_at "m") => `(tactic| first
  | with_reducible refine g_m1 ?_
  | with_reducible refine g_isS ?_
  | with_reducible refine g_lcStr ?_
  | with_reducible refine g_join ?_
  | with_reducible refine g_js ?_
  | with_reducible refine g_jsN ?_
  | with_reducible refine g_fmt ?_
  | with_reducible refine g_callLam ?_
  | with_reducible refine g_revT ?_)
local macro_rules | `(tactic| walk_at "m") => `(tactic| first
  | with_reducible refine g_sfld ?_
  | with_reducible refine g_fld ?_
  | with_reducible refine g_meth ?_
  | with_reducible refine g_make ?_
  | with_reducible refine g_prop ?_
  | with_reducible refine g_del ?_)

/-! ### the mathematics of the law's own steps -/
theorem okGo_after : ∀ {b e : Int} {cs : List (Int × Int)}, okGo b e cs = true → ∀ p ∈ cs, e ≤ p.1
  | _, _, [], _, _, h => nomatch h
  | b, e, p :: r, h, q, hq => by
    rw [okGo_cons, Bool.and_eq_true] at h
    have h1 := h.1
    unfold okC at h1
    simp only [Bool.and_eq_true, decide_eq_true_eq] at h1
    rcases List.mem_cons.mp hq with rfl | hq
    · exact h1.1.1
    · have := okGo_after h.2 q hq
      omega
theorem off_filter (t : Int) : ∀ {b e : Int} {cs : List (Int × Int)} (cur : Int), okGo b e cs = true →
    offGo t cur cs = ((cs.filter fun p => decide (p.1 ≤ t)).map (·.2)).getLast?.getD cur
  | _, _, [], _, _ => rfl
  | b, e, p :: r, cur, h => by
    have h0 := h
    rw [okGo_cons, Bool.and_eq_true] at h
    unfold offGo
    split
    next c =>
      have em : (p :: r).filter (fun p => decide (p.1 ≤ t)) = [] := by
        rw [List.filter_eq_nil_iff]
        intro q hq
        rcases List.mem_cons.mp hq with rfl | hq
        · simp; omega
        · have := okGo_after h.2 q hq
          simp; omega
      rw [em]
      rfl
    next c =>
      have hp : decide (p.1 ≤ t) = true := decide_eq_true (by omega)
      rw [List.filter_cons, if_pos hp, List.map_cons, List.getLast?_cons, off_filter t p.2 h.2]
      rfl
theorem okGo_offs : ∀ {b e : Int} {cs : List (Int × Int)}, okGo b e cs = true → ∀ p ∈ cs, -15 ≤ p.2 ∧ p.2 ≤ 15 ∧ e ≤ p.1 ∧ p.1 ≤ 1000
  | _, _, [], _, _, h => nomatch h
  | b, e, p :: r, h, q, hq => by
    have h0 := okGo_after h q hq
    rw [okGo_cons, Bool.and_eq_true] at h
    have h1 := h.1
    unfold okC at h1
    simp only [Bool.and_eq_true, decide_eq_true_eq] at h1
    rcases List.mem_cons.mp hq with rfl | hq
    · omega
    · have := okGo_offs h.2 q hq
      omega
structure OkZ (z : Zone) : Prop where
  lo : -12 ≤ z.1
  hi : z.1 ≤ 12
  len : z.2.length ≤ 8
  go : okGo z.1 (-1000) z.2 = true
theorem OkZ.of {z : Zone} (h : okZ z = true) : OkZ z := by
  unfold okZ at h
  simp only [Bool.and_eq_true, decide_eq_true_eq] at h
  exact ⟨h.1.1, h.1.2, h.2.1, h.2.2⟩
theorem OkZ.offs {z : Zone} (h : OkZ z) (t : Int) : -15 ≤ off z t ∧ off z t ≤ 15 := by
  have m := offGo_mem t z.2 z.1
  have l := h.lo
  have u := h.hi
  unfold off
  rcases List.mem_cons.mp m with e | e
  · rw [e]; omega
  · obtain ⟨p, hp, q⟩ := List.mem_map.mp e
    rw [← q]
    have := okGo_offs h.go p hp
    omega
/-- the instants with a reading -/
def insts (z : Zone) (t : Int) : List Int := (irange (t - 16) 33).filter fun k => decide (k + off z k = t)
theorem insts_mem {z : Zone} (h : OkZ z) {t k : Int} : k ∈ insts z t ↔ k + off z k = t := by
  unfold insts
  rw [List.mem_filter, decide_eq_true_eq, irange_mem]
  have := h.offs k
  constructor
  · exact fun q => q.2
  · exact fun q => ⟨by omega, q⟩
theorem insts_rise (z : Zone) (t : Int) : (insts z t).Pairwise (· < ·) := (irange_rise _ _).filter _
/-! ### promises -/
def sp_law_alike (K : PySem.W.Frag) : Nat → Sp
  | 0 => fun _ _ _ _ => False
  | n + 1 => fun vs H Q _ => ∃ (x y : V) (d : PyData), vs = [x, y] ∧ Dp K H x d ∧ Dp K H y d ∧ fits n d = true ∧ ∀ H', Ex H H' → Q (.bl true) H'
def sp_law_offset (K : PySem.W.Frag) : Sp := fun vs H Q _ => ∃ (zv : V) (z : Zone) (t : Int), vs = [zv, .int t] ∧ ZV K H zv z ∧ OkZ z ∧ ∀ H', Ex H H' → Q (.int (off z t)) H'
def sp_law_instants (K : PySem.W.Frag) : Sp := fun vs H Q _ => ∃ (zv : V) (z : Zone) (t : Int), vs = [zv, .int t] ∧ ZV K H zv z ∧ OkZ z ∧ -1000000000 ≤ t ∧ t ≤ 1000000000 ∧
  ∀ p H', H p = none → Ex H H' → H' p = some (.lst ((insts z t).map V.int)) → Q (.ref p) H'
section
variable {P : Program} {w : World} {K : PySem.W.Frag} {mg : Str → Option Value} {base : Heap}
theorem ok_law_offset (T : Txt w K mg) : FnOk P w K mg base CX0 1 T.f_law_offset.f T.f_law_offset.fd ["zone", "instant"] (sp_law_offset K) := by
  refine T.f_law_offset.F.ok sc_law_offset (fun vs H Q E h => ?_) (fun cdv A outer s H vs Q E hr h => ?_)
  · obtain ⟨zv, z, t, rfl, _⟩ := h
    rfl
  obtain ⟨zv, z, t, rfl, ⟨a, c, rfl, ha, b, xs, rfl, hb, hp⟩, hz, k⟩ := h
  have hf := off_filter t z.1 hz.go
  refine ⟨(tSeq (tAsg (tLc (iTup K (tOp (rIxT K) (tVar 0) (tC (.int 1)))) (gTup K 2 (gCons (gName 3) (gCons (gName 4) gNil))) (tTest (tOp (rI0 fun i j => .bl (decide (i ≤ j))) (tVar 3) (tVar 1))) (tVar 4) [3, 4]) (gName 2)) (tRet (tIf (tTest (tOp (rNeD K) (tVar 2) (tLst tNil))) (tOp (rIxL K) (tVar 2) (tUn (rU fun i => .int (-i)) (tC (.int 1)))) (tOp (rIxT K) (tVar 0) (tC (.int 0)))))),
    PSs.nox (pss_cons (ps_setLc (i := 2) (own := [("at", 3), ("after", 4)]) rfl sc_law_offset.nd rfl rfl (sw_true rfl rfl rfl (by decide +kernel)) (pi_tup (pe_ix ix_tup (pv 0) pe_int (fun _ _ => rfl))) (blkOk_by (own := [("at", 3), ("after", 4)]) (N := ["zone", "instant", "some", "at", "after"]) (sc := (defScope s_law_offset)) (by decide +kernel)) (fun _ _ _ _ _ => (pg_tup rfl (pgs_cons (pg_name (i := 3) sc_law_offset.nd rfl (Or.inl rfl)) (pgs_cons (pg_name (i := 4) sc_law_offset.nd rfl (Or.inl rfl)) pgs_nil)))) (fun _ _ _ _ _ => (pts_one (pt_cmpR op_le (pv 3) (pv 1) (nomark _)))) (fun _ _ _ _ _ => (pv 4))) (pss_one (ps_ret (pe_ifExp (pt_cmpR (op_neD hr.units) (pv 2) (pe_lst pa_nil) (nomark _)) (pe_ix ix_list (pv 2) (pe_un un_neg pe_int) (fun _ _ => rfl)) (pe_ix ix_tup (pv 0) pe_int (fun _ _ => rfl)))))), ?_⟩
  walk_at "gg"
  refine g_lcT (F := PV K) hb hp (by have := hz.len; omega) (fun p => decide (p.1 ≤ t)) (fun p => .int p.2) (fun _ _ _ e h => h.tr (TrT.of e)) ?_ ?_
  · rintro p x H2 e2 ⟨y, rfl, hy⟩ R S hR hS
    walk_at "gg"
    refine ⟨rfl, ?_⟩
    walk_at "gg"
    refine if_d (fun c => ?_) (fun c => ?_)
    · walk_at "gg"
      exact hS (decide_eq_true c) _ (Evl.Ex.refl _)
    · exact hR (decide_eq_false c) _ (Evl.Ex.refl _)
  rintro l1 H1 n1 e1 h1
  have h1' : H1 l1 = some (.lst (((z.2.filter fun p => decide (p.1 ≤ t)).map (·.2)).map V.int)) := by
    rw [h1, List.map_map]
    rfl
  walk_at "gg"
  refine g_newL (by simp) fun l2 H2 n2 e2 h2 => ?_
  refine g_neNil (e2 _ _ h1') h2 ?_
  have k2 := k H2 (e1.trans e2)
  unfold off at k2
  rw [hf] at k2
  generalize (z.2.filter fun p => decide (p.1 ≤ t)).map (·.2) = ns at *
  walk_at "gg"
  cases hn : ns.getLast? with
  | none =>
    rw [List.getLast?_eq_none_iff] at hn
    subst hn
    walk_at "gg"
    exact k2
  | some v =>
    rw [hn] at k2
    have ne : ns.isEmpty = false := by cases ns with | nil => cases hn | cons _ _ => rfl
    rw [ne]
    walk_at "gg"
    refine g_ixL (SqL.of (e2 _ _ h1')) (atI_end (v := V.int v) ?_) k2
    rw [List.getLast?_map, hn]
    rfl
theorem ok_law_instants (T : Txt w K mg) : FnOk P w K mg base CX0 2 T.f_law_instants.f T.f_law_instants.fd ["zone", "reading"] (sp_law_instants K) := by
  refine T.f_law_instants.F.ok sc_law_instants (fun vs H Q E h => ?_) (fun cdv A outer s H vs Q E hr h => ?_)
  · obtain ⟨zv, z, t, rfl, _⟩ := h
    rfl
  obtain ⟨zv, z, t, rfl, hv, hz, b1, b2, k⟩ := h
  refine ⟨(tRet (tLc (iRng2 (tCons (tOp (rI0 fun i j => .int (i - j)) (tVar 1) (tC (.int 16))) (tCons (tOp (rI0 fun i j => .int (i + j)) (tVar 1) (tC (.int 17))) tNil))) (gName 2) (tTest (tOp rEq (tOp (rI0 fun i j => .int (i + j)) (tVar 2) (tCall (sp_law_offset K) [] E0 (tCons (tVar 0) (tCons (tVar 2) tNil)))) (tVar 1))) (tVar 2) [2])),
    PSs.nox (pss_one (ps_ret (pe_lc (own := [("each", 2)]) rfl sc_law_instants.nd (pi_range2 (by rfl) T.z_range (pa_cons (pe_op op_sub (pv 1) pe_int) (pa_cons (pe_op op_add (pv 1) pe_int) pa_nil))) (blkOk_by (own := [("each", 2)]) (N := ["zone", "reading", "each"]) (sc := (defScope s_law_instants)) (by decide +kernel)) (fun _ _ _ _ _ => (pg_name (i := 2) sc_law_instants.nd rfl (Or.inl rfl))) (fun _ _ _ _ _ => (pts_one (pt_cmpR op_eq (pe_op op_add (pv 2) (pe_call (ok_law_offset T) (hr.mono (by decide)) (by rfl) T.f_law_offset.g T.f_law_offset.F.kp T.f_law_offset.b .nil pass0 (pa_cons (pv 0) (pa_cons (pv 2) pa_nil)))) (pv 1) (nomark _)))) (fun _ _ _ _ _ => (pv 2))))), ?_⟩
  walk_at "gg"
  refine g_lcRng2 ?_
  walk_at "gg"
  refine g_lcR2 (by omega) (by omega) (by omega) (by omega) (fun k => decide (k + off z k = t)) (fun k => .int k) ?_ ?_
  · rintro i H2 e2 _ _ R S hR hS
    walk_at "gg"
    refine ⟨rfl, ?_⟩
    walk_at "gg"
    refine ⟨_, _, _, rfl, hv.tr (TrT.of e2), hz, fun H3 e3 => ?_⟩
    walk_at "gg"
    refine if_d (fun c => ?_) (fun c => ?_)
    · walk_at "gg"
      exact hS (decide_eq_true c) _ e3
    · exact hR (decide_eq_false c) _ e3
  intro D H1 n1 e1 h1
  refine k D H1 n1 e1 ?_
  rw [h1, show (t + 17 - (t - 16)).toNat = 33 by omega]
  rfl
theorem ok_law_alike (T : Txt w K mg) : ∀ n : Nat, FnOk P w K mg base CX0 (n + 1) T.f_law_alike.f T.f_law_alike.fd ["found", "due"] (sp_law_alike K n) := by
  intro n
  induction n with
  | zero => exact T.f_law_alike.F.ok sc_law_alike (fun vs H Q E h => h.elim) (fun cdv A outer s H vs Q E hr h => h.elim)
  | succ n IH =>
    refine T.f_law_alike.F.ok sc_law_alike (fun vs H Q E h => ?_) (fun cdv A outer s H vs Q E hr h => ?_)
    · obtain ⟨x, y, d, rfl, _⟩ := h
      rfl
    obtain ⟨x, y, d, rfl, hx, hy, hf, k⟩ := h
    refine ⟨(tSeq (tIfS (tB (tCB (rIsiT K) (tCons (tVar 1) (tCons (tTup (tCons (tC (.ty "tuple")) (tCons (tC (.ty "list")) tNil))) tNil)))) (tSeq (tIfS (tOr (tNot (tB (tCB (rIsiT K) (tCons (tVar 0) (tCons (tTup (tCons (tC (.ty "tuple")) (tCons (tC (.ty "list")) tNil))) tNil))))) (tTest (tOp rNe (tCB (rIsi K) (tCons (tVar 0) (tCons (tC (.ty "list")) tNil))) (tCB (rIsi K) (tCons (tVar 1) (tCons (tC (.ty "list")) tNil)))))) (tRet (tC (.bl false))) tNext) (tSeq (tIfS (tTest (tOp rNe (tCB (Evl.rLenS K) (tCons (tVar 0) tNil)) (tCB (Evl.rLenS K) (tCons (tVar 1) tNil)))) (tRet (tC (.bl false))) tNext) (tRet (tOp (rEqD K) (tLc (iRng1 (tCons (tCB (Evl.rLenS K) (tCons (tVar 1) tNil)) tNil)) (gName 2) (tNot (tB (tCall (sp_law_alike K n) [] E0 (tCons (tOp (rIxT K) (tVar 0) (tVar 2)) (tCons (tOp (rIxT K) (tVar 1) (tVar 2)) tNil))))) (tVar 2) [2]) (tLst tNil))))) tNext) (tSeq (tIfS (tOr (tTest (tOp r_isN (tVar 1) (tC .non))) (tB (tCB (rIsi K) (tCons (tVar 1) (tCons (tC (.ty "str")) tNil))))) (tRet (tAndV (tOp rEq (tVar 0) (tVar 1)) (tOp rEq (tCB (rIsi K) (tCons (tVar 0) (tCons (tC (.ty "str")) tNil))) (tCB (rIsi K) (tCons (tVar 1) (tCons (tC (.ty "str")) tNil)))))) tNext) (tRet (tAndV (tCB (rIsi K) (tCons (tVar 0) (tCons (tC (.ty "int")) tNil))) (tAndV (tOp rEq (tCB (rIsi K) (tCons (tVar 0) (tCons (tC (.ty "bool")) tNil))) (tCB (rIsi K) (tCons (tVar 1) (tCons (tC (.ty "bool")) tNil)))) (tOp rEq (tVar 0) (tVar 1))))))),
    PSs.nox (pss_cons (ps_if (pt_val (pe_callB call_isiT (by rfl) T.z_isinstance (by decide +kernel) (pa_cons (pv 1) (pa_cons (pe_tup (pa_cons (pe_bltn (by rfl) T.z_tuple (by decide +kernel) rfl) (pa_cons (pe_bltn (by rfl) T.z_list (by decide +kernel) rfl) pa_nil))) pa_nil)))) (pss_cons (ps_if (PW.pt (pw_or (pt_not (pt_val (pe_callB call_isiT (by rfl) T.z_isinstance (by decide +kernel) (pa_cons (pv 0) (pa_cons (pe_tup (pa_cons (pe_bltn (by rfl) T.z_tuple (by decide +kernel) rfl) (pa_cons (pe_bltn (by rfl) T.z_list (by decide +kernel) rfl) pa_nil))) pa_nil))))) (pw_or1 (pt_cmpR op_ne (pe_callB call_isi (by rfl) T.z_isinstance (by decide +kernel) (pa_cons (pv 0) (pa_cons (pe_bltn (by rfl) T.z_list (by decide +kernel) rfl) pa_nil))) (pe_callB call_isi (by rfl) T.z_isinstance (by decide +kernel) (pa_cons (pv 1) (pa_cons (pe_bltn (by rfl) T.z_list (by decide +kernel) rfl) pa_nil))) (nomark _))))) (pss_one (ps_ret pe_bl)) pss_nil) (pss_cons (ps_if (pt_cmpR op_ne (pe_callB call_len_seq (by rfl) T.z_len (by decide +kernel) (pa_cons (pv 0) pa_nil)) (pe_callB call_len_seq (by rfl) T.z_len (by decide +kernel) (pa_cons (pv 1) pa_nil)) (nomark _)) (pss_one (ps_ret pe_bl)) pss_nil) (pss_one (ps_ret (pe_cmpR (op_eqD hr.units) (pe_lc (own := [("k", 2)]) rfl sc_law_alike.nd (pi_range1 (by rfl) T.z_range (pa_cons (pe_callB call_len_seq (by rfl) T.z_len (by decide +kernel) (pa_cons (pv 1) pa_nil)) pa_nil)) (blkOk_by (own := [("k", 2)]) (N := ["found", "due", "k"]) (sc := (defScope s_law_alike)) (by decide +kernel)) (fun _ _ _ _ _ => (pg_name (i := 2) sc_law_alike.nd rfl (Or.inl rfl))) (fun _ _ _ _ _ => (pts_one (pt_not (pt_val (pe_call IH hr (by rfl) T.f_law_alike.g T.f_law_alike.F.kp T.f_law_alike.b .nil pass0 (pa_cons (pe_ix ix_tup (pv 0) (pv 2) (fun _ _ => rfl)) (pa_cons (pe_ix ix_tup (pv 1) (pv 2) (fun _ _ => rfl)) pa_nil))))))) (fun _ _ _ _ _ => (pv 2))) (pe_lst pa_nil) (nomark _)))))) pss_nil) (pss_cons (ps_if (PW.pt (pw_or (pt_cmpR op_isN (pv 1) pe_non (nomark _)) (pw_or1 (pt_val (pe_callB call_isi (by rfl) T.z_isinstance (by decide +kernel) (pa_cons (pv 1) (pa_cons (pe_bltn (by rfl) T.z_str (by decide +kernel) rfl) pa_nil))))))) (pss_one (ps_ret (pe_and (pe_cmpR op_eq (pv 0) (pv 1) (nomark _)) (pe_one (pe_cmpR op_eq (pe_callB call_isi (by rfl) T.z_isinstance (by decide +kernel) (pa_cons (pv 0) (pa_cons (pe_bltn (by rfl) T.z_str (by decide +kernel) rfl) pa_nil))) (pe_callB call_isi (by rfl) T.z_isinstance (by decide +kernel) (pa_cons (pv 1) (pa_cons (pe_bltn (by rfl) T.z_str (by decide +kernel) rfl) pa_nil))) (nomark _)))))) pss_nil) (pss_one (ps_ret (pe_and (pe_callB call_isi (by rfl) T.z_isinstance (by decide +kernel) (pa_cons (pv 0) (pa_cons (pe_bltn (by rfl) T.z_int (by decide +kernel) rfl) pa_nil))) (pe_and (pe_cmpR op_eq (pe_callB call_isi (by rfl) T.z_isinstance (by decide +kernel) (pa_cons (pv 0) (pa_cons (pe_bltn (by rfl) T.z_bool (by decide +kernel) rfl) pa_nil))) (pe_callB call_isi (by rfl) T.z_isinstance (by decide +kernel) (pa_cons (pv 1) (pa_cons (pe_bltn (by rfl) T.z_bool (by decide +kernel) rfl) pa_nil))) (nomark _)) (pe_one (pe_cmpR op_eq (pv 0) (pv 1) (nomark _))))))))), ?_⟩
    walk_at "gg"
    refine g_newT (by simp) fun l1 H1 n1 e1 h1 => ?_
    walk_at "gg"
    have hx1 := dp_ex e1 hx
    have hy1 := dp_ex e1 hy
    cases hx with
    | non =>
      cases hy
      refine g_isiT h1 ty_non (by decide +kernel : kitB "NoneType" "tuple" = some false) (by decide +kernel : kitB "NoneType" "list" = some false) ?_
      walk_at "gg"
      refine g_same rfl ?_
      walk_at "gg"
      refine g_isi ty_non (by decide +kernel : kitB "NoneType" "str" = some false) ?_
      walk_at "gg"
      refine g_isi ty_non (by decide +kernel : kitB "NoneType" "str" = some false) ?_
      walk_at "gg"
      exact k H1 e1
    | bl b =>
      cases hy
      refine g_isiT h1 ty_bl (by decide +kernel : kitB "bool" "tuple" = some false) (by decide +kernel : kitB "bool" "list" = some false) ?_
      walk_at "gg"
      refine g_isi ty_bl (by decide +kernel : kitB "bool" "str" = some false) ?_
      walk_at "gg"
      refine g_isi ty_bl (by decide +kernel : kitB "bool" "int" = some true) ?_
      walk_at "gg"
      refine g_isi ty_bl (by decide +kernel : kitB "bool" "bool" = some true) ?_
      walk_at "gg"
      refine g_isi ty_bl (by decide +kernel : kitB "bool" "bool" = some true) ?_
      walk_at "gg"
      rw [beq_self_eq_true b]
      exact k H1 e1
    | int i =>
      cases hy
      refine g_isiT h1 ty_int (by decide +kernel : kitB "int" "tuple" = some false) (by decide +kernel : kitB "int" "list" = some false) ?_
      walk_at "gg"
      refine g_isi ty_int (by decide +kernel : kitB "int" "str" = some false) ?_
      walk_at "gg"
      refine g_isi ty_int (by decide +kernel : kitB "int" "int" = some true) ?_
      walk_at "gg"
      refine g_isi ty_int (by decide +kernel : kitB "int" "bool" = some false) ?_
      walk_at "gg"
      refine g_isi ty_int (by decide +kernel : kitB "int" "bool" = some false) ?_
      walk_at "gg"
      rw [decide_eq_true (rfl : i = i)]
      exact k H1 e1
    | str b =>
      cases hy
      refine g_isiT h1 ty_str (by decide +kernel : kitB "str" "tuple" = some false) (by decide +kernel : kitB "str" "list" = some false) ?_
      walk_at "gg"
      refine g_isi ty_str (by decide +kernel : kitB "str" "str" = some true) ?_
      walk_at "gg"
      refine if_d (fun c => ?_) (fun c => absurd rfl c)
      walk_at "gg"
      refine g_isi ty_str (by decide +kernel : kitB "str" "str" = some true) ?_
      walk_at "gg"
      refine g_isi ty_str (by decide +kernel : kitB "str" "str" = some true) ?_
      walk_at "gg"
      exact k H1 e1
    | lst h1 h2 => cases n <;> cases hf
    | @tup a xs ds hs hd =>
      cases hy with
      | @tup b ys _ hs' hd' =>
      cases n with
      | zero => cases hf
      | succ n =>
      rw [fits_tuple, Bool.and_eq_true, List.all_eq_true, decide_eq_true_eq] at hf
      obtain ⟨hl, hf⟩ := hf
      have p1 := dpAll_pd hd
      have p2 := dpAll_pd hd'
      have m1 := Paired.length p1
      have m2 := Paired.length p2
      have z := Nat.le_refl ds.length
      refine g_isiT h1 (ty_tup (Evl.ex_t e1 hs')) (by decide +kernel : kitB "tuple" "tuple" = some true) (by decide +kernel : kitB "tuple" "list" = some false) ?_
      walk_at "gg"
      refine g_newT (by simp) fun l2 H2 n2 e2 h2 => ?_
      walk_at "gg"
      refine g_isiT h2 (ty_tup (Evl.ex_t e2 (Evl.ex_t e1 hs))) (by decide +kernel : kitB "tuple" "tuple" = some true) (by decide +kernel : kitB "tuple" "list" = some false) ?_
      have e02 := e1.trans e2
      walk_at "gg"
      refine g_isi (ty_tup (Evl.ex_t e02 hs)) (by decide +kernel : kitB "tuple" "list" = some false) ?_
      walk_at "gg"
      refine g_isi (ty_tup (Evl.ex_t e02 hs')) (by decide +kernel : kitB "tuple" "list" = some false) ?_
      walk_at "gg"
      refine g_lenT (Evl.ex_t e02 hs) ?_
      walk_at "gg"
      refine g_lenT (Evl.ex_t e02 hs') ?_
      walk_at "gg"
      refine if_nd (fun c => absurd (by rw [m1, m2]) c) (fun _ => ?_)
      walk_at "gg"
      refine g_lcRng1 ?_
      walk_at "gg"
      refine g_lenT (Evl.ex_t e02 hs') ?_
      walk_at "gg"
      refine g_lcR1 ?_ (by omega) (fun _ => false) (fun k => .int k) ?_ ?_
      · omega
      · rintro i H3 e3 i0 i1 R S hR hS
        walk_at "gg"
        refine ⟨rfl, ?_⟩
        walk_at "gg"
        have e03 := e02.trans e3
        have lt : i.toNat < ds.length := by omega
        obtain ⟨d, hd1, _⟩ : ∃ d, ds[i.toNat]? = some d ∧ True := ⟨_, List.getElem?_eq_getElem lt, trivial⟩
        have lx : i.toNat < xs.length := by omega
        have ly : i.toNat < ys.length := by omega
        obtain ⟨dx, hdx, qx⟩ := pd_get p1 (List.getElem?_eq_getElem lx)
        obtain ⟨dy, hdy, qy⟩ := pd_get p2 (List.getElem?_eq_getElem ly)
        rw [hd1] at hdx hdy
        cases hdx
        cases hdy
        refine g_ixT (Evl.ex_t e03 hs) (atI_of i0 (List.getElem?_eq_getElem lx)) ?_
        walk_at "gg"
        refine g_ixT (Evl.ex_t e03 hs') (atI_of i0 (List.getElem?_eq_getElem ly)) ?_
        walk_at "gg"
        refine ⟨_, _, d, rfl, dp_ex e03 qx, dp_ex e03 qy, hf d (List.mem_of_getElem? hd1), fun H4 e4 => ?_⟩
        walk_at "gg"
        exact hR rfl _ e4
      · intro D H3 n3 e3 h3
        walk_at "gg"
        refine g_newL (by simp) fun l4 H4 n4 e4 h4 => ?_
        refine g_eqNil (ns := []) (e4 _ _ (by rw [h3]; simp)) h4 ?_
        exact k H4 ((e02.trans e3).trans e4)
end
local macro_rules | `(tactic| walk_at "m") => `(tactic| first
  | with_reducible refine g_m1 ?_
  | with_reducible refine g_isS ?_
  | with_reducible refine g_lcStr ?_
  | with_reducible refine g_join ?_
  | with_reducible refine g_js ?_
  | with_reducible refine g_jsN ?_
  | with_reducible refine g_fmt ?_
  | with_reducible refine g_callLam ?_
  | with_reducible refine g_revT ?_)
local macro_rules | `(tactic| walk_at "m") => `(tactic| first
  | with_reducible refine g_sfld ?_
  | with_reducible refine g_fld ?_
  | with_reducible refine g_meth ?_
  | with_reducible refine g_make ?_
  | with_reducible refine g_prop ?_
  | with_reducible refine g_del ?_)

/-! ### the drawn zone's mathematics -/
def lastO : Int → List (Int × Int) → Int
  | b, [] => b
  | _, p :: r => lastO p.2 r
def lastE : Int → List (Int × Int) → Int
  | e, [] => e
  | _, p :: r => lastE (p.1 + 12) r
theorem okGo_app (p : Int × Int) : ∀ (ps : List (Int × Int)) (b e : Int), okGo b e (ps ++ [p]) = (okGo b e ps && okC (lastO b ps) (lastE e ps) p)
  | [], b, e => by
    show okGo b e [p] = (true && okC b e p)
    rw [okGo_cons, Bool.true_and]
    show (okC b e p && true) = _
    rw [Bool.and_true]
  | q :: r, b, e => by
    show okGo b e (q :: (r ++ [p])) = _
    rw [okGo_cons, okGo_cons, okGo_app p r, Bool.and_assoc]
    rfl
def kstep (b : Int) (f : Bool × Bool) (a : Int) : Bool × Bool := if a > b then (true, f.2) else (f.1, true)
theorem kindGo_app (p : Int × Int) : ∀ (ps : List (Int × Int)) (b : Int) (s r : Bool), kindGo b s r (ps ++ [p]) = kstep (lastO b ps) (kindGo b s r ps) p.2
  | [], b, s, r => rfl
  | q :: l, b, s, r => by
    show kindGo b s r (q :: (l ++ [p])) = _
    rw [kindGo_cons, kindGo_cons]
    split
    · exact kindGo_app p l _ _ _
    · exact kindGo_app p l _ _ _
theorem lastO_app (p : Int × Int) : ∀ (ps : List (Int × Int)) (b : Int), lastO b (ps ++ [p]) = p.2
  | [], _ => rfl
  | q :: r, b => lastO_app p r q.2
theorem lastE_app (p : Int × Int) : ∀ (ps : List (Int × Int)) (e : Int), lastE e (ps ++ [p]) = p.1 + 12
  | [], _ => rfl
  | q :: r, b => lastE_app p r (q.1 + 12)
/-- the flags behind i changes -/
def flagsOf (kind : Str) (i : Nat) : Bool × Bool := match i with
  | 0 => (false, false)
  | 1 => if kind = "repeats" then (false, true) else (true, false)
  | _ => if kind = "skips" then (true, false) else if kind = "repeats" then (false, true) else (true, true)
structure ZInv (kind : Str) (first : Int) (i : Nat) (ps : List (Int × Int)) (o at' : Int) : Prop where
  len : ps.length = i
  ok : okGo first (-1000) ps = true
  ho : lastO first ps = o
  he : lastE (-1000) ps ≤ at'
  a1 : -30 ≤ at'
  a2 : at' ≤ -22 + 32 * i
  o1 : -3 - 3 * i ≤ o
  o2 : o ≤ 3 + 3 * i
  fl : kindGo first false false ps = flagsOf kind i
/-- the sign of a change -/
structure Sgn (kind : Str) (i : Nat) (s : Int) : Prop where
  one : s = 1 ∨ s = -1
  sk : kind = "skips" → s = 1
  re : kind = "repeats" → s = -1
  b0 : kind ≠ "skips" → kind ≠ "repeats" → i = 0 → s = 1
  b1 : kind ≠ "skips" → kind ≠ "repeats" → i = 1 → s = -1
theorem ne_sr : ¬ (("skips" : Str) = "repeats") := by decide +kernel
theorem ne_rs : ¬ (("repeats" : Str) = "skips") := by decide +kernel
theorem ZInv.step {kind : Str} {first : Int} {i : Nat} {ps : List (Int × Int)} {o at' : Int} (h : ZInv kind first i ps o at') {st s g : Int} (i3 : i ≤ 3) (h1 : 1 ≤ st) (h2 : st ≤ 3) (hs : Sgn kind i s) (g0 : 0 ≤ g) (g1 : g ≤ 19) :
    ZInv kind first (i + 1) (ps ++ [(at', o + s * st)]) (o + s * st) (at' + 12 + g) := by
  have a1 := h.a1
  have a2 := h.a2
  have o1 := h.o1
  have o2 := h.o2
  have e := h.he
  have hm : s * st = st ∨ s * st = -st := by
    rcases hs.one with q | q <;> rw [q] <;> omega
  refine ⟨by rw [List.length_append, h.len] <;> rfl, ?_, lastO_app _ _ _, ?_, by omega, by omega, by omega, by omega, ?_⟩
  · rw [okGo_app, h.ok, h.ho]
    unfold okC
    simp only [Bool.true_and, Bool.and_eq_true, decide_eq_true_eq]
    omega
  · rw [lastE_app]
    show at' + 12 ≤ _
    omega
  · rw [kindGo_app, h.ho, h.fl]
    show kstep o (flagsOf kind i) (o + s * st) = flagsOf kind (i + 1)
    unfold kstep
    by_cases k1 : kind = "skips"
    · have q := hs.sk k1
      rw [if_pos (by rw [q]; omega)]
      subst k1
      match i with
      | 0 => unfold flagsOf; simp [ne_sr]
      | 1 => unfold flagsOf; simp [ne_sr]
      | i + 2 => unfold flagsOf; simp
    · by_cases k2 : kind = "repeats"
      · have q := hs.re k2
        rw [if_neg (by rw [q]; omega)]
        subst k2
        match i with
        | 0 => unfold flagsOf; simp
        | 1 => unfold flagsOf; simp [ne_rs]
        | i + 2 => unfold flagsOf; simp [ne_rs]
      · match i with
        | 0 =>
          have q := hs.b0 k1 k2 rfl
          rw [if_pos (by rw [q]; omega)]
          unfold flagsOf
          simp [k2]
        | 1 =>
          have q := hs.b1 k1 k2 rfl
          rw [if_neg (by rw [q]; omega)]
          unfold flagsOf
          simp [k1, k2]
        | i + 2 =>
          unfold flagsOf
          simp [k1, k2]
structure GoodZ (kind : Str) (z : Zone) : Prop where
  ok : okZ z = true
  kind : kindOf z = kind
  few : z.2.length ≤ 4
theorem ZInv.good {kind : Str} {first : Int} {i : Nat} {ps : List (Int × Int)} {o at' : Int} (h : ZInv kind first i ps o at') (f1 : -3 ≤ first) (f2 : first ≤ 3) (i4 : i ≤ 4)
    (hk : (kind = "fixed" ∧ i = 0) ∨ ((kind = "skips" ∨ kind = "repeats") ∧ 1 ≤ i) ∨ (kind = "both" ∧ 2 ≤ i)) : GoodZ kind (first, ps) := by
  refine ⟨?_, ?_, by show ps.length ≤ 4; rw [h.len]; exact i4⟩
  · unfold okZ
    simp only [Bool.and_eq_true, decide_eq_true_eq]
    exact ⟨by omega, by rw [h.len]; omega, h.ok⟩
  · show (match kindGo first false false ps with | (true, true) => ("both" : Str) | (true, false) => "skips" | (false, true) => "repeats" | (false, false) => "fixed") = kind
    rw [h.fl]
    have nb1 : ¬ (("both" : Str) = "skips") := by decide +kernel
    have nb2 : ¬ (("both" : Str) = "repeats") := by decide +kernel
    rcases hk with ⟨rfl, rfl⟩ | ⟨rfl | rfl, hi⟩ | ⟨rfl, hi⟩
    · rfl
    · match i with
      | 1 => unfold flagsOf; simp [ne_sr]
      | i + 2 => unfold flagsOf; simp
    · match i with
      | 1 => unfold flagsOf; simp
      | i + 2 => unfold flagsOf; simp [ne_rs]
    · match i with
      | i + 2 => unfold flagsOf; simp [nb1, nb2]
/-- what the written dict of signs gives -/
def sgnV (kind : Str) (d : Int) : V := (valV (mergeK [] [((Sum.inr "skips" : Key), V.int 1), (Sum.inr "repeats", V.int (0 - 1))]) (Sum.inr kind : Key)).getD (.int d)
theorem sgnV_ok {kind : Str} {i : Nat} {d : Int} (h1 : d = 1 ∨ d = -1) (h2 : i = 0 → d = 1) (h3 : i = 1 → d = -1) : ∃ s, sgnV kind d = .int s ∧ Sgn kind i s := by
  have e : mergeK [] [((Sum.inr "skips" : Key), V.int 1), (Sum.inr "repeats", V.int (0 - 1))] = [((Sum.inr "skips" : Key), V.int 1), (Sum.inr "repeats", V.int (0 - 1))] := by decide +kernel
  unfold sgnV
  rw [e]
  by_cases k1 : kind = "skips"
  · subst k1
    rw [valV_pos rfl]
    exact ⟨1, rfl, .inl rfl, fun _ => rfl, fun h => absurd h ne_sr, fun h => absurd rfl h, fun h => absurd rfl h⟩
  · rw [valV_neg (fun h => k1 (Sum.inr.inj h).symm)]
    by_cases k2 : kind = "repeats"
    · subst k2
      rw [valV_pos rfl]
      exact ⟨-1, rfl, .inr rfl, fun h => absurd h k1, fun _ => rfl, fun _ h => absurd rfl h, fun _ h => absurd rfl h⟩
    · rw [valV_neg (fun h => k2 (Sum.inr.inj h).symm), valV_nil]
      exact ⟨d, rfl, h1, fun h => absurd h k1, fun h => absurd h k2, fun _ _ => h2, fun _ _ => h3⟩
/-! ### promises -/
def sp_law_zone (K : PySem.W.Frag) : Sp := fun vs H Q _ => ∃ (ρ : Rw) (kind : Str), vs = [.ref ρ.1, .str kind] ∧ Row K H ρ ∧ (kind = "fixed" ∨ kind = "skips" ∨ kind = "repeats" ∨ kind = "both") ∧
  ∀ zv z H', Fr ρ.1 H H' → Row K H' ρ → ZV K H' zv z → GoodZ kind z → Q zv H'
section
variable {P : Program} {w : World} {K : PySem.W.Frag} {mg : Str → Option Value} {base : Heap}
theorem ok_law_zone (T : Txt w K mg) : FnOk P w K mg base CX0 3 T.f_law_zone.f T.f_law_zone.fd ["row", "kind"] (sp_law_zone K) := by
  refine T.f_law_zone.F.ok sc_law_zone (fun vs H Q E h => ?_) (fun cdv A outer s H vs Q E hr h => ?_)
  · obtain ⟨ρ, kind, rfl, _⟩ := h
    rfl
  obtain ⟨ρ, kind, rfl, hR, hk, k⟩ := h
  obtain ⟨rowl, hrow⟩ := hR.lst
  refine ⟨(tSeq (tPar3 2 3 4 (tCons (tOp (rI0 fun i j => .int (i - j)) (tCall (sp_law_taken K) [] E0 (tCons (tVar 0) (tCons (tC (.int 7)) tNil))) (tC (.int 3))) (tCons (tLst tNil) (tCons (tOp (rI0 fun i j => .int (i - j)) (tCall (sp_law_taken K) [] E0 (tCons (tVar 0) (tCons (tC (.int 9)) tNil))) (tC (.int 30))) tNil)))) (tSeq (tAsg (tVar 2) (gName 5)) (tSeq (tAsg (tIf (tTest (tOp rEq (tVar 1) (tC (.str "fixed")))) (tC (.int 0)) (tIf (tTest (tOp rNe (tVar 1) (tC (.str "both")))) (tOp (rI0 fun i j => .int (i + j)) (tC (.int 1)) (tCall (sp_law_taken K) [] E0 (tCons (tVar 0) (tCons (tC (.int 4)) tNil)))) (tOp (rI0 fun i j => .int (i + j)) (tC (.int 2)) (tCall (sp_law_taken K) [] E0 (tCons (tVar 0) (tCons (tC (.int 3)) tNil)))))) (gName 6)) (tSeq (tFor (iRng1 (tCons (tVar 6) tNil)) (gName 7) (tSeq (tAsg (tOp (rI0 fun i j => .int (i + j)) (tC (.int 1)) (tCall (sp_law_taken K) [] E0 (tCons (tVar 0) (tCons (tC (.int 3)) tNil)))) (gName 8)) (tSeq (tAsg (tDGet2 (tDisp [((tC (.str "skips")), (tC (.int 1))), ((tC (.str "repeats")), (tOp (rI0 fun i j => .int (i - j)) (tC (.int 0)) (tC (.int 1))))]) (tVar 1) (tIf (tTest (tOp rEq (tVar 7) (tC (.int 0)))) (tC (.int 1)) (tIf (tTest (tOp rEq (tVar 7) (tC (.int 1)))) (tOp (rI0 fun i j => .int (i - j)) (tC (.int 0)) (tC (.int 1))) (tOp (rI0 fun i j => .int (i - j)) (tC (.int 1)) (tOp (rI CMul fun i j => .int (i * j)) (tC (.int 2)) (tCall (sp_law_taken K) [] E0 (tCons (tVar 0) (tCons (tC (.int 2)) tNil)))))))) (gName 9)) (tSeq (tAsg (tOp (rI0 fun i j => .int (i + j)) (tVar 2) (tOp (rI CMul fun i j => .int (i * j)) (tVar 9) (tVar 8))) (gName 2)) (tSeq (tDrop (tBM K "list" rAppend (tVar 3) (tCons (tTup (tCons (tVar 4) (tCons (tVar 2) tNil))) tNil))) (tAsg (tOp (rI0 fun i j => .int (i + j)) (tOp (rI0 fun i j => .int (i + j)) (tVar 4) (tC (.int 12))) (tCall (sp_law_pick K) [] E0 (tCons (tVar 0) (tCons (tLst (tCons (tC (.int 0)) (tCons (tC (.int 1)) (tCons (tC (.int 12)) (tCons (tC (.int 13)) (tCons (tCall (sp_law_taken K) [] E0 (tCons (tVar 0) (tCons (tC (.int 20)) tNil))) tNil)))))) tNil)))) (gName 4))))))) (tRet (tTup (tCons (tVar 5) (tCons (tCB (r_tupleOf K) (tCons (tVar 3) tNil)) tNil)))))))),
    PSs.nox (pss_cons (ps_par3 (by rfl) sc_law_zone.nd rfl rfl rfl (by decide) (by decide) (by decide) rfl rfl rfl (pa_cons (pe_op op_sub (pe_call (ok_law_taken T) (hr.mono (by decide)) (by rfl) T.f_law_taken.g T.f_law_taken.F.kp T.f_law_taken.b .nil pass0 (pa_cons (pv 0) (pa_cons pe_int pa_nil))) pe_int) (pa_cons (pe_lst pa_nil) (pa_cons (pe_op op_sub (pe_call (ok_law_taken T) (hr.mono (by decide)) (by rfl) T.f_law_taken.g T.f_law_taken.F.kp T.f_law_taken.b .nil pass0 (pa_cons (pv 0) (pa_cons pe_int pa_nil))) pe_int) pa_nil))) (by rfl)) (pss_cons (ps_set (i := 5) sc_law_zone.nd rfl (Or.inl rfl) (pv 2)) (pss_cons (ps_set (i := 6) sc_law_zone.nd rfl (Or.inl rfl) (pe_ifExp (pt_cmpR op_eq (pv 1) pe_str (nomark _)) pe_int (pe_ifExp (pt_cmpR op_ne (pv 1) pe_str (nomark _)) (pe_op op_add pe_int (pe_call (ok_law_taken T) (hr.mono (by decide)) (by rfl) T.f_law_taken.g T.f_law_taken.F.kp T.f_law_taken.b .nil pass0 (pa_cons (pv 0) (pa_cons pe_int pa_nil)))) (pe_op op_add pe_int (pe_call (ok_law_taken T) (hr.mono (by decide)) (by rfl) T.f_law_taken.g T.f_law_taken.F.kp T.f_law_taken.b .nil pass0 (pa_cons (pv 0) (pa_cons pe_int pa_nil))))))) (pss_cons (ps_for PassesOwn.never rfl (pi_range1 (by rfl) T.z_range (pa_cons (pv 6) pa_nil)) (pg_name (i := 7) sc_law_zone.nd rfl (Or.inl rfl)) (pss_cons (ps_set (i := 8) sc_law_zone.nd rfl (Or.inl rfl) (pe_op op_add pe_int (pe_call (ok_law_taken T) (hr.mono (by decide)) (by rfl) T.f_law_taken.g T.f_law_taken.F.kp T.f_law_taken.b .nil pass0 (pa_cons (pv 0) (pa_cons pe_int pa_nil))))) (pss_cons (ps_set (i := 9) sc_law_zone.nd rfl (Or.inl rfl) (pe_dget2 (hu_of hr) (pe_disp (pps_cons pe_str pe_int (pps_cons pe_str (pe_op op_sub pe_int pe_int) pps_nil)) (by rfl) (by rfl) (fun z => by cases z) (by decide)) (pv 1) (pe_ifExp (pt_cmpR op_eq (pv 7) pe_int (nomark _)) pe_int (pe_ifExp (pt_cmpR op_eq (pv 7) pe_int (nomark _)) (pe_op op_sub pe_int pe_int) (pe_op op_sub pe_int (pe_op op_mul pe_int (pe_call (ok_law_taken T) (hr.mono (by decide)) (by rfl) T.f_law_taken.g T.f_law_taken.F.kp T.f_law_taken.b .nil pass0 (pa_cons (pv 0) (pa_cons pe_int pa_nil))))))) ⟨by rfl, by rfl, by rfl, by rfl⟩)) (pss_cons (ps_set (i := 2) sc_law_zone.nd rfl (Or.inl rfl) (pe_op op_add (pv 2) (pe_op op_mul (pv 9) (pv 8)))) (pss_cons (ps_expr (pe_bm PySem.F.plainAttrs_list PySem.F.slot_list_append PySem.F.type_list_append mt_append (pv 3) (pa_cons (pe_tup (pa_cons (pv 4) (pa_cons (pv 2) pa_nil))) pa_nil))) (pss_one (ps_set (i := 4) sc_law_zone.nd rfl (Or.inl rfl) (pe_op op_add (pe_op op_add (pv 4) pe_int) (pe_call (ok_law_pick T) (hr.mono (by decide)) (by rfl) T.f_law_pick.g T.f_law_pick.F.kp T.f_law_pick.b .nil pass0 (pa_cons (pv 0) (pa_cons (pe_lst (pa_cons pe_int (pa_cons pe_int (pa_cons pe_int (pa_cons pe_int (pa_cons (pe_call (ok_law_taken T) (hr.mono (by decide)) (by rfl) T.f_law_taken.g T.f_law_taken.F.kp T.f_law_taken.b .nil pass0 (pa_cons (pv 0) (pa_cons pe_int pa_nil))) pa_nil)))))) pa_nil))))))))))) (pss_one (ps_ret (pe_tup (pa_cons (pv 5) (pa_cons (pe_callTy call_tuple_of (by rfl) T.z_tuple (by decide +kernel) (pa_cons (pv 3) pa_nil)) pa_nil))))))))), ?_⟩
  walk_at "gg"
  refine ⟨ρ, _, rfl, hR, by omega, by omega, fun v1 H1 p1 q1 e1 R1 => ?_⟩
  walk_at "gg"
  refine g_newL (by simp) fun l H2 n2 e2 h2 => ?_
  walk_at "gg"
  refine ⟨ρ, _, rfl, R1.ex e2, by omega, by omega, fun v2 H3 p3 q3 e3 R3 => ?_⟩
  walk_at "nn"
  have nl : H l = none := by
    obtain ⟨xs, q⟩ := R1.lst
    have ne : l ≠ ρ.1 := fun z => by rw [z, q] at n2; cases n2
    cases q0 : H l with
    | none => rfl
    | some o => rw [e1 l o ne q0] at n2; cases n2
  have nlr : l ≠ ρ.1 := fun z => by rw [z, hrow] at nl; cases nl
  have h3 : H3 l = some (.lst []) := e3 _ _ nlr h2
  have f3 : Fr ρ.1 H H3 := (e1.trans (Fr.of e2)).trans e3
  refine cutE (te := tIf _ _ _) (fun v H' => ∃ m : Int, v = .int m ∧ 0 ≤ m ∧ m ≤ 4 ∧ Fr ρ.1 H3 H' ∧ Row K H' ρ ∧ ((kind = "fixed" ∧ m = 0) ∨ ((kind = "skips" ∨ kind = "repeats") ∧ 1 ≤ m) ∨ (kind = "both" ∧ 2 ≤ m))) ?_ ?_
  · intro Q' k'
    refine g_if ?_
    walk_at "gg"
    refine if_d (fun c => ?_) (fun c => ?_)
    · walk_at "gg"
      exact k' _ _ ⟨0, rfl, by omega, by omega, Fr.refl, R3, .inl ⟨c, rfl⟩⟩
    · walk_at "gg"
      refine if_nd (fun c2 => ?_) (fun c2 => ?_)
      · walk_at "gg"
        refine ⟨ρ, _, rfl, R3, by omega, by omega, fun v4 H4 p4 q4 e4 R4 => ?_⟩
        walk_at "gg"
        refine k' _ _ ⟨_, rfl, by omega, by omega, e4, R4, .inr (.inl ⟨?_, by omega⟩)⟩
        rcases hk with h | h | h | h
        · exact absurd h c
        · exact .inl h
        · exact .inr h
        · exact absurd h c2
      · walk_at "gg"
        refine ⟨ρ, _, rfl, R3, by omega, by omega, fun v4 H4 p4 q4 e4 R4 => ?_⟩
        walk_at "gg"
        exact k' _ _ ⟨_, rfl, by omega, by omega, e4, R4, .inr (.inr ⟨c2, by omega⟩)⟩
  rintro _ H4 ⟨m, rfl, m0, m4, e4, R4, hm⟩
  walk_at "gg"
  refine g_forR (by omega) (by omega) (fun i σ' H' => ∃ o at' ps vs k0 st0 sg0, σ' = [some (.ref ρ.1), some (.str kind), some (.int o), some (.ref l), some (.int at'), some (.int (v1 - 3)), some (.int m), k0, st0, sg0] ∧
      Fr ρ.1 H H' ∧ Row K H' ρ ∧ H' l = some (.lst vs) ∧ PVs K H' vs ps ∧ ZInv kind (v1 - 3) i ps o at') ?_ ?_ ?_
  · exact ⟨_, _, [], [], _, _, _, rfl, f3.trans e4, R4, e4 _ _ nlr h3, .nil, rfl, rfl, rfl, by show (-1000 : Int) ≤ _; omega, by omega, by omega, by omega, by omega, rfl⟩
  · rintro i σ' H5 hi ⟨o, at', ps, vs, k0, st0, sg0, rfl, f5, R5, h5, P5, Z5⟩
    walk_at "gg"
    refine ⟨ρ, _, rfl, R5, by omega, by omega, fun v6 H6 p6 q6 e6 R6 => ?_⟩
    walk_at "gg"
    refine g_disp fun d H7 n7 e7 h7 => ?_
    walk_at "gg"
    refine g_dispEnd [((Sum.inr "skips" : Key), V.int 1), (Sum.inr "repeats", V.int (0 - 1))] (H0 := H6) n7 e7 h7 rfl (by decide) fun H8 e8 _ h8 => ?_
    refine g_isD h8 ?_
    walk_at "nn"
    have R8 := R6.ex e8
    refine cutE (te := tIf _ _ _) (fun v H' => ∃ x : Int, v = .int x ∧ (x = 1 ∨ x = -1) ∧ (i = 0 → x = 1) ∧ (i = 1 → x = -1) ∧ Fr ρ.1 H8 H' ∧ Row K H' ρ) ?_ ?_
    · intro Q' k'
      refine g_if ?_
      walk_at "gg"
      refine if_d (fun c => ?_) (fun c => ?_)
      · walk_at "gg"
        exact k' _ _ ⟨_, rfl, .inl rfl, fun _ => rfl, fun h => by omega, Fr.refl, R8⟩
      · walk_at "gg"
        refine if_d (fun c2 => ?_) (fun c2 => ?_)
        · walk_at "gg"
          exact k' _ _ ⟨_, rfl, .inr rfl, fun h => by omega, fun h => rfl, Fr.refl, R8⟩
        · walk_at "gg"
          refine ⟨ρ, _, rfl, R8, by omega, by omega, fun v9 H9 p9 q9 e9 R9 => ?_⟩
          walk_at "gg"
          exact k' _ _ ⟨_, rfl, by omega, fun h => by omega, fun h => by omega, e9, R9⟩
    rintro _ H9 ⟨x, rfl, x1, x2, x3, e9, R9⟩
    have nd : d ≠ ρ.1 := fun z => by
      obtain ⟨xs, q⟩ := R6.lst
      rw [z, q] at n7
      cases n7
    refine g_dgetR (e9 _ _ nd h8) ?_
    obtain ⟨sg, es, S⟩ := sgnV_ok (kind := kind) (i := i) (d := x) x1 x2 x3
    rw [show (valV (mergeK [] [((Sum.inr "skips" : Key), V.int 1), (Sum.inr "repeats", V.int (0 - 1))]) (Sum.inr kind : Key)).getD (.int x) = .int sg from es]
    walk_at "gg"
    have R9l : H9 l = some (.lst vs) := e9 _ _ nlr (e8 _ _ (e6 _ _ nlr h5))
    refine g_tbmV rfl (SqL.of R9l) ?_
    walk_at "gg"
    refine g_newT (by simp) fun t1 H10 n10 e10 h10 => ?_
    walk_at "gg"
    have h10l := e10 _ _ R9l
    have len := P5.len
    have f10 : Fr ρ.1 H H10 := (((f5.trans e6).trans (Fr.of e8)).trans e9).trans (Fr.of e10)
    have R10 := R9.ex e10
    refine g_app h10l (by rw [len, Z5.len]; omega) fun H11 e11 => ?_
    have R11 : Row K H11 ρ := by rw [e11]; exact Row.mut hR R10 f10 nl
    have f11 : Fr ρ.1 H H11 := by rw [e11]; exact Fr.mut f10 nl
    have t11 : TrT K H10 H11 := by rw [e11]; exact TrT.upd h10l
    have h11 : H11 l = some (.lst (vs ++ [.ref t1])) := by rw [e11]; exact upd_same
    have P11 : PVs K H11 (vs ++ [.ref t1]) (ps ++ [(at', o + sg * (1 + v6))]) :=
      pd_app (P5.tr ((((R5.tr e6).trans (TrT.of e8)).trans (R8.tr e9)).trans ((TrT.of e10).trans t11))) (.cons ⟨t1, rfl, t11 _ _ (SqT.of h10)⟩ .nil)
    clear e11
    walk_at "gg"
    refine ⟨ρ, _, rfl, R11, by omega, by omega, fun v12 H12 p12 q12 e12 R12 => ?_⟩
    walk_at "gg"
    refine g_newL (by simp) fun l13 H13 n13 e13 h13 => ?_
    walk_at "gg"
    obtain ⟨xs12, q12'⟩ := R12.lst
    refine ⟨ρ, _, _, rfl, R12.ex e13, h13, (ne_of_none q12' n13).symm, by simp, by simp, fun x H14 m14 e14 R14 => ?_⟩
    obtain ⟨gp, rfl, g0, g1⟩ : ∃ gp : Int, x = .int gp ∧ 0 ≤ gp ∧ gp ≤ 19 := by
      simp only [List.mem_cons, List.not_mem_nil, or_false] at m14
      rcases m14 with rfl | rfl | rfl | rfl | rfl
      · exact ⟨_, rfl, by omega, by omega⟩
      · exact ⟨_, rfl, by omega, by omega⟩
      · exact ⟨_, rfl, by omega, by omega⟩
      · exact ⟨_, rfl, by omega, by omega⟩
      · exact ⟨_, rfl, by omega, by omega⟩
    walk_at "gg"
    have f1114 : Fr ρ.1 H11 H14 := (e12.trans (Fr.of e13)).trans e14
    exact ⟨_, _, _, _, _, _, _, rfl, f11.trans f1114, R14, f1114 _ _ nlr h11, P11.tr (R11.tr f1114), Z5.step (by omega) (by omega) (by omega) S g0 g1⟩
  · rintro σ' H5 ⟨o, at', ps, vs, k0, st0, sg0, rfl, f5, R5, h5, P5, Z5⟩
    walk_at "gg"
    refine g_tupleOfL (SqL.of h5) fun t1 H6 n6 e6 h6 => ?_
    walk_at "gg"
    refine g_newT (by simp) fun t2 H7 n7 e7 h7 => ?_
    refine k (.ref t2) (v1 - 3, ps) H7 ((f5.trans (Fr.of e6)).trans (Fr.of e7)) ((R5.ex e6).ex e7) ⟨t2, .ref t1, rfl, SqT.of h7, t1, vs, rfl, SqT.of (e7 _ _ h6), P5.tr (TrT.of (e6.trans e7))⟩ (Z5.good (by omega) (by omega) (by omega) ?_)
    have : (m.toNat : Int) = m := by omega
    rcases hm with ⟨h1, h2⟩ | ⟨h1, h2⟩ | ⟨h1, h2⟩
    · exact .inl ⟨h1, by omega⟩
    · exact .inr (.inl ⟨h1, by omega⟩)
    · exact .inr (.inr ⟨h1, by omega⟩)
end
local macro_rules | `(tactic| walk_at "m") => `(tactic| first
  | with_reducible refine g_m1 ?_
  | with_reducible refine g_isS ?_
  | with_reducible refine g_lcStr ?_
  | with_reducible refine g_join ?_
  | with_reducible refine g_js ?_
  | with_reducible refine g_jsN ?_
  | with_reducible refine g_fmt ?_
  | with_reducible refine g_callLam ?_
  | with_reducible refine g_revT ?_)
local macro_rules | `(tactic| walk_at "m") => `(tactic| first
  | with_reducible refine g_sfld ?_
  | with_reducible refine g_fld ?_
  | with_reducible refine g_meth ?_
  | with_reducible refine g_make ?_
  | with_reducible refine g_prop ?_
  | with_reducible refine g_del ?_)

def sp_law_spot (K : PySem.W.Frag) : Sp := fun vs H Q _ => ∃ (ρ : Rw) (zv : V) (z : Zone), vs = [.ref ρ.1, zv] ∧ Row K H ρ ∧ ZV K H zv z ∧ OkZ z ∧
  ∀ v H', -2000 ≤ v → v ≤ 2000 → Fr ρ.1 H H' → Row K H' ρ → Q (.int v) H'
def sp_law (K : PySem.W.Frag) : Sp := fun vs H Q _ => ∃ (a : Addr) (ns : List Int), vs = [.ref a] ∧ SqL K H a (ns.map V.int) ∧ ns.length ≤ 63 ∧ ∀ H', Q (.bl true) H'
theorem Row.new {K : PySem.W.Frag} {H H' : Hp} {a r : Addr} {ns : List Int} {s : Int} (h : SqL K H a (ns.map V.int)) (n : H r = none) (e : Ex H H') (q : H' r = some (.lst [.ref a, .int 0, .int s, .int 0])) (h0 : 0 ≤ s) (h1 : s < 2 ^ 40) :
    Row K H' (r, a, ns) := by
  refine ⟨0, s, 0, q, fun G f => ?_, Int.le_refl _, h0, h1⟩
  rcases h with (h | ⟨o, h⟩) | h
  · exact .inl (.inl (f a _ (ne_of_none h n) (e a _ h)))
  · exact .inl (.inr ⟨o, f a _ (ne_of_none h n) (e a _ h)⟩)
  · exact .inr h
section
variable {P : Program} {w : World} {K : PySem.W.Frag} {mg : Str → Option Value} {base : Heap}
theorem ok_law_spot (T : Txt w K mg) : FnOk P w K mg base CX0 3 T.f_law_spot.f T.f_law_spot.fd ["row", "zone"] (sp_law_spot K) := by
  refine T.f_law_spot.F.ok sc_law_spot (fun vs H Q E h => ?_) (fun cdv A outer s H vs Q E hr h => ?_)
  · obtain ⟨ρ, zv, z, rfl, _⟩ := h
    rfl
  obtain ⟨ρ, zv, z, rfl, hR, hv, hz, k⟩ := h
  obtain ⟨rowl, hrow⟩ := hR.lst
  obtain ⟨a, c, rfl, ha, b, xs, rfl, hb, hp⟩ := id hv
  refine ⟨(tSeq (tAsg (tOp rCat (tCB (Evl.rListS K) (tCons (tOp (rIxT K) (tVar 1) (tC (.int 1))) tNil)) (tLst (tCons (tTup (tCons (tOp (rI0 fun i j => .int (i - j)) (tCall (sp_law_taken K) [] E0 (tCons (tVar 0) (tCons (tC (.int 99)) tNil))) (tC (.int 50))) (tCons (tOp (rIxT K) (tVar 1) (tC (.int 0))) tNil))) tNil))) (gName 2)) (tSeq (tAsg (tOp (rIxL K) (tVar 2) (tCall (sp_law_taken K) [] E0 (tCons (tVar 0) (tCons (tCB (Evl.rLenS K) (tCons (tVar 2) tNil)) tNil)))) (gTup K 2 (gCons (gName 3) (gCons (gName 4) gNil)))) (tRet (tOp (rI0 fun i j => .int (i + j)) (tOp (rI0 fun i j => .int (i + j)) (tVar 3) (tVar 4)) (tCall (sp_law_pick K) [] E0 (tCons (tVar 0) (tCons (tLst (tCons (tC (.int 0)) (tCons (tOp (rI0 fun i j => .int (i - j)) (tC (.int 0)) (tC (.int 1))) (tCons (tOp (rI0 fun i j => .int (i - j)) (tC (.int 0)) (tC (.int 2))) (tCons (tOp (rI0 fun i j => .int (i - j)) (tC (.int 0)) (tC (.int 3))) (tCons (tC (.int 1)) (tCons (tC (.int 2)) (tCons (tC (.int 3)) (tCons (tOp (rI0 fun i j => .int (i - j)) (tC (.int 0)) (tC (.int 24))) (tCons (tC (.int 24)) (tCons (tOp (rI0 fun i j => .int (i - j)) (tCall (sp_law_taken K) [] E0 (tCons (tVar 0) (tCons (tC (.int 15)) tNil))) (tC (.int 7))) tNil))))))))))) tNil))))))),
    PSs.nox (pss_cons (ps_set (i := 2) sc_law_spot.nd rfl (Or.inl rfl) (pe_op op_cat (pe_callTy call_list_of (by rfl) T.z_list (by decide +kernel) (pa_cons (pe_ix ix_tup (pv 1) pe_int (fun _ _ => rfl)) pa_nil)) (pe_lst (pa_cons (pe_tup (pa_cons (pe_op op_sub (pe_call (ok_law_taken T) (hr.mono (by decide)) (by rfl) T.f_law_taken.g T.f_law_taken.F.kp T.f_law_taken.b .nil pass0 (pa_cons (pv 0) (pa_cons pe_int pa_nil))) pe_int) (pa_cons (pe_ix ix_tup (pv 1) pe_int (fun _ _ => rfl)) pa_nil))) pa_nil)))) (pss_cons (ps_asg (pe_ix ix_list (pv 2) (pe_call (ok_law_taken T) (hr.mono (by decide)) (by rfl) T.f_law_taken.g T.f_law_taken.F.kp T.f_law_taken.b .nil pass0 (pa_cons (pv 0) (pa_cons (pe_callB call_len_seq (by rfl) T.z_len (by decide +kernel) (pa_cons (pv 2) pa_nil)) pa_nil))) (fun _ _ => rfl)) (pg_tup rfl (pgs_cons (pg_name (i := 3) sc_law_spot.nd rfl (Or.inl rfl)) (pgs_cons (pg_name (i := 4) sc_law_spot.nd rfl (Or.inl rfl)) pgs_nil)))) (pss_one (ps_ret (pe_op op_add (pe_op op_add (pv 3) (pv 4)) (pe_call (ok_law_pick T) (hr.mono (by decide)) (by rfl) T.f_law_pick.g T.f_law_pick.F.kp T.f_law_pick.b .nil pass0 (pa_cons (pv 0) (pa_cons (pe_lst (pa_cons pe_int (pa_cons (pe_op op_sub pe_int pe_int) (pa_cons (pe_op op_sub pe_int pe_int) (pa_cons (pe_op op_sub pe_int pe_int) (pa_cons pe_int (pa_cons pe_int (pa_cons pe_int (pa_cons (pe_op op_sub pe_int pe_int) (pa_cons pe_int (pa_cons (pe_op op_sub (pe_call (ok_law_taken T) (hr.mono (by decide)) (by rfl) T.f_law_taken.g T.f_law_taken.F.kp T.f_law_taken.b .nil pass0 (pa_cons (pv 0) (pa_cons pe_int pa_nil))) pe_int) pa_nil))))))))))) pa_nil)))))))), ?_⟩
  walk_at "gg"
  refine g_listOfT hb fun l1 H1 n1 e1 h1 => ?_
  walk_at "gg"
  refine ⟨ρ, _, rfl, hR.ex e1, by omega, by omega, fun v2 H2 p2 q2 e2 R2 => ?_⟩
  walk_at "gg"
  have t2 : TrT K H H2 := (TrT.of e1).trans ((hR.ex e1).tr e2)
  refine g_ixT (t2 _ _ ha) rfl ?_
  walk_at "gg"
  refine g_newT (by simp) fun t3 H3 n3 e3 h3 => ?_
  walk_at "gg"
  refine g_newL (by simp) fun l4 H4 n4 e4 h4 => ?_
  have n1r : l1 ≠ ρ.1 := (ne_of_none hrow n1).symm
  have m := hp.len
  have m8 := hz.len
  refine g_cat (e4 _ _ (e3 _ _ (e2 _ _ n1r h1))) h4 (by simp; omega) fun l5 H5 n5 e5 h5 => ?_
  walk_at "gg"
  refine g_lenL (SqL.of h5) ?_
  walk_at "gg"
  have R5 := ((R2.ex e3).ex e4).ex e5
  refine ⟨ρ, _, rfl, R5, by simp, by simp; omega, fun v6 H6 p6 q6 e6 R6 => ?_⟩
  have lt : v6.toNat < (xs ++ [V.ref t3]).length := by omega
  have n5r : l5 ≠ ρ.1 := by
    obtain ⟨_, q⟩ := R2.lst
    exact (ne_of_none (e4 _ _ (e3 _ _ q)) n5).symm
  refine g_ixL (SqL.of (e6 _ _ n5r h5)) (atI_of p6 (List.getElem?_eq_getElem lt)) ?_
  have t6 : TrT K H3 H6 := (TrT.of (e4.trans e5)).trans (R5.tr e6)
  have P6 : PVs K H6 (xs ++ [V.ref t3]) (z.2 ++ [(v2 - 50, z.1)]) :=
    pd_app ((hp.tr t2).tr ((TrT.of e3).trans t6)) (.cons ⟨t3, rfl, t6 _ _ (SqT.of h3)⟩ .nil)
  obtain ⟨p, hp1, t7, et, ht⟩ := pd_get P6 (List.getElem?_eq_getElem lt)
  rw [et]
  have pm := List.mem_of_getElem? hp1
  have b1 : -1000 ≤ p.1 ∧ p.1 ≤ 1000 ∧ -15 ≤ p.2 ∧ p.2 ≤ 15 := by
    rcases List.mem_append.mp pm with q | q
    · have := okGo_offs hz.go p q
      omega
    · have e := List.mem_singleton.mp q
      subst e
      have := hz.lo
      have := hz.hi
      show -1000 ≤ v2 - 50 ∧ v2 - 50 ≤ 1000 ∧ -15 ≤ z.1 ∧ z.1 ≤ 15
      omega
  walk_at "gg"
  refine ⟨ρ, _, rfl, R6, by omega, by omega, fun v8 H8 p8 q8 e8 R8 => ?_⟩
  walk_at "gg"
  refine g_newL (by simp) fun l9 H9 n9 e9 h9 => ?_
  walk_at "gg"
  obtain ⟨xs8, q8'⟩ := R8.lst
  refine ⟨ρ, _, _, rfl, R8.ex e9, h9, (ne_of_none q8' n9).symm, by simp, by simp, fun x H10 m10 e10 R10 => ?_⟩
  obtain ⟨gp, rfl, g0, g1⟩ : ∃ gp : Int, x = .int gp ∧ -24 ≤ gp ∧ gp ≤ 24 := by
    simp only [List.mem_cons, List.not_mem_nil, or_false] at m10
    rcases m10 with rfl | rfl | rfl | rfl | rfl | rfl | rfl | rfl | rfl | rfl <;> exact ⟨_, rfl, by omega, by omega⟩
  walk_at "gg"
  refine k _ H10 (by omega) (by omega) ?_ R10
  exact ((((((Fr.of e1).trans e2).trans (Fr.of e3)).trans (Fr.of e4)).trans (Fr.of e5)).trans e6).trans ((e8.trans (Fr.of e9)).trans e10)
end
/-! ### offsets near one another -/
theorem offGo_before {t : Int} : ∀ {b e : Int} {cs : List (Int × Int)}, okGo b e cs = true → t < e → offGo t b cs = b
  | _, _, [], _, _ => rfl
  | b, e, p :: r, h, q => by
    have := okGo_after h p (by simp)
    unfold offGo
    rw [if_pos (by omega)]
theorem offGo_cons (t b : Int) (p : Int × Int) (r : List (Int × Int)) : offGo t b (p :: r) = if p.1 > t then b else offGo t p.2 r := rfl
/-- at most one change in twelve hours -/
theorem off_near {t u : Int} (h1 : t ≤ u) (h2 : u ≤ t + 12) : ∀ {b e : Int} {cs : List (Int × Int)}, okGo b e cs = true →
    ∃ s, t < s ∧ (∀ x, t ≤ x → x < s → offGo x b cs = offGo t b cs) ∧ (∀ x, s ≤ x → x ≤ u → offGo x b cs = offGo u b cs) ∧
      (s ≤ u → offGo u b cs ≠ offGo t b cs ∧ offGo u b cs - offGo t b cs ≤ 3 ∧ offGo t b cs - offGo u b cs ≤ 3)
  | _, _, [], _ => ⟨u + 1, by omega, fun _ _ _ => rfl, fun x _ _ => rfl, fun h => by omega⟩
  | b, e, p :: r, h => by
    have h0 := h
    rw [okGo_cons, Bool.and_eq_true] at h
    have hc := h.1
    unfold okC at hc
    simp only [Bool.and_eq_true, decide_eq_true_eq] at hc
    by_cases c1 : u < p.1
    · refine ⟨u + 1, by omega, fun x x1 x2 => ?_, fun x x1 x2 => by omega, fun h => by omega⟩
      rw [offGo_cons, offGo_cons, if_pos (by omega), if_pos (by omega)]
    · by_cases c2 : p.1 ≤ t
      · obtain ⟨s, s1, s2, s3, s4⟩ := off_near h1 h2 h.2
        refine ⟨s, s1, fun x x1 x2 => ?_, fun x x1 x2 => ?_, fun hs => ?_⟩
        · rw [offGo_cons, offGo_cons, if_neg (by omega), if_neg (by omega)]
          exact s2 x x1 x2
        · rw [offGo_cons, offGo_cons, if_neg (by omega), if_neg (by omega)]
          exact s3 x x1 x2
        · rw [offGo_cons, offGo_cons, if_neg (by omega), if_neg (by omega)]
          exact s4 hs
      · have e1 : ∀ x, t ≤ x → x < p.1 → offGo x b (p :: r) = b := fun x x1 x2 => by rw [offGo_cons, if_pos (by omega)]
        have e2 : ∀ x, p.1 ≤ x → x ≤ u → offGo x b (p :: r) = p.2 := fun x x1 x2 => by
          rw [offGo_cons, if_neg (by omega)]
          exact offGo_before h.2 (by omega)
        refine ⟨p.1, by omega, fun x x1 x2 => ?_, fun x x1 x2 => ?_, fun hs => ?_⟩
        · rw [e1 x x1 x2, e1 t (by omega) (by omega)]
        · rw [e2 x x1 x2, e2 u (by omega) (by omega)]
        · rw [e2 u (by omega) (by omega), e1 t (by omega) (by omega)]
          omega
section
variable {z : Zone} (h : OkZ z)
include h
theorem OkZ.near {t u : Int} (h1 : t ≤ u) (h2 : u ≤ t + 12) : ∃ s, t < s ∧ (∀ x, t ≤ x → x < s → off z x = off z t) ∧ (∀ x, s ≤ x → x ≤ u → off z x = off z u) ∧
      (s ≤ u → off z u ≠ off z t ∧ off z u - off z t ≤ 3 ∧ off z t - off z u ≤ 3) := off_near h1 h2 h.go
theorem OkZ.near3 {t u : Int} (h1 : t ≤ u) (h2 : u ≤ t + 12) : off z u - off z t ≤ 3 ∧ off z t - off z u ≤ 3 := by
  obtain ⟨s, s1, s2, s3, s4⟩ := h.near h1 h2
  by_cases c : s ≤ u
  · exact (s4 c).2
  · rw [s2 u h1 (by omega)]
    omega
theorem OkZ.far {t : Int} (n : Nat) : ∀ u : Int, t ≤ u → u ≤ t + 12 * n → off z u - off z t ≤ 3 * n ∧ off z t - off z u ≤ 3 * n := by
  induction n with
  | zero =>
    intro u h1 h2
    have e : u = t := by omega
    subst e
    omega
  | succ n ih =>
    intro u h1 h2
    by_cases c : u ≤ t + 12
    · have := h.near3 h1 c
      omega
    · have := ih (u - 12) (by omega) (by omega)
      have := h.near3 (t := u - 12) (u := u) (by omega) (by omega)
      omega
/-- a reading that is not greater later comes within three hours -/
theorem OkZ.back {t u : Int} (h1 : t < u) (h2 : u + off z u ≤ t + off z t) : u ≤ t + 3 := by
  have q := h.far (t := t) ((u - t + 11) / 12).toNat u (by omega) (by omega)
  omega
theorem OkZ.two {t u v : Int} (h1 : t < u) (h2 : u < v) (e1 : u + off z u = t + off z t) (e2 : v + off z v = t + off z t) : False := by
  have b := h.back (t := t) (u := v) (by omega) (by omega)
  obtain ⟨s, s1, s2, s3, s4⟩ := h.near (t := t) (u := v) (by omega) (by omega)
  by_cases c : u < s
  · have := s2 u (by omega) c
    omega
  · have := s3 u (by omega) (by omega)
    omega
theorem OkZ.le2 (rd : Int) : (insts z rd).length ≤ 2 := by
  have m := fun k => (insts_mem h (t := rd) (k := k)).1
  have r := insts_rise z rd
  match e : insts z rd with
  | [] => simp
  | [a] => simp
  | [a, b] => simp
  | a :: b :: c :: l =>
    rw [e] at m r
    simp only [List.pairwise_cons] at r
    have h1 := r.1 b (by simp)
    have h2 := r.2.1 c (by simp)
    have e1 := m a (by simp)
    have e2 := m b (by simp)
    have e3 := m c (by simp)
    exact (h.two h1 h2 (by omega) (by omega)).elim
end
/-! ### libraries, times -/
inductive Gap where
  | keep | refuse | shift
  deriving DecidableEq
inductive Fold where
  | both | first | refuse | second
  deriving DecidableEq
structure Way where
  ws : Bool
  wo : Bool
  gap : Gap
  fold : Fold
  deriving DecidableEq
def sumS (b : Bool) : Str := if b then "wall" else "elapsed"
def gapS : Gap → Str
  | .keep => "keep"
  | .refuse => "refuse"
  | .shift => "shift"
def foldS : Fold → Str
  | .both => "both"
  | .first => "first"
  | .refuse => "refuse"
  | .second => "second"
theorem sum_wall (b : Bool) : decide (sumS b = "wall") = b := by cases b <;> decide +kernel
theorem sum_elapsed (b : Bool) : decide (sumS b = "elapsed") = !b := by cases b <;> decide +kernel
theorem gap_keep (g : Gap) : decide (gapS g = "keep") = decide (g = .keep) := by cases g <;> decide +kernel
theorem gap_refuse (g : Gap) : decide (gapS g = "refuse") = decide (g = .refuse) := by cases g <;> decide +kernel
theorem gap_shift (g : Gap) : decide (gapS g = "shift") = decide (g = .shift) := by cases g <;> decide +kernel
theorem fold_both (g : Fold) : decide (foldS g = "both") = decide (g = .both) := by cases g <;> decide +kernel
theorem fold_first (g : Fold) : decide (foldS g = "first") = decide (g = .first) := by cases g <;> decide +kernel
theorem fold_refuse (g : Fold) : decide (foldS g = "refuse") = decide (g = .refuse) := by cases g <;> decide +kernel
theorem fold_second (g : Fold) : decide (foldS g = "second") = decide (g = .second) := by cases g <;> decide +kernel
def maxB (z : Zone) (rd : Int) : Int := ((irange (rd - 16) 33).filter fun k => decide (k + off z k < rd)).getLast?.getD 0
def before (z : Zone) (rd : Int) : Int := off z (maxB z rd)
def times (w : Way) (z : Zone) (rd : Int) : List Tm :=
  if (insts z rd).length = 2 then (match w.fold with | .both => [(rd, 0), (rd, 1)] | .refuse => [] | _ => [(rd, 0)])
  else if (insts z rd).length = 1 ∨ w.gap = .keep then [(rd, 0)] else []
def inst (w : Way) (z : Zone) (t : Tm) : Int :=
  if insts z t.1 = [] then t.1 - before z t.1
  else if w.fold = .second then (insts z t.1).getLast?.getD 0 else ((insts z t.1)[t.2.toNat]?).getD 0
def at_ (w : Way) (z : Zone) (T : Int) : Option Tm :=
  if (insts z (T + off z T)).length = 2 ∧ w.fold = .refuse then none
  else some (T + off z T, if w.fold = .both ∧ T ≠ (insts z (T + off z T)).head?.getD 0 then 1 else 0)
def read_ (w : Way) (z : Zone) (rd : Int) : Option Tm :=
  if insts z rd = [] then (match w.gap with | .shift => at_ w z (rd - before z rd) | .refuse => none | .keep => some (rd, 0))
  else if w.fold = .refuse ∧ (insts z rd).length = 2 then none else some (rd, 0)
def addT (w : Way) (z : Zone) (o : Option Tm) (d : Int) : Option Tm := match o with
  | none => none
  | some t => if w.ws then read_ w z (t.1 + d) else at_ w z (inst w z t + d)
def less_ (w : Way) (z : Zone) (a b : Tm) : Int := if w.ws then a.1 - b.1 else inst w z a - inst w z b
def key (w : Way) (z : Zone) (t : Tm) : Int := if w.wo then t.1 else inst w z t
def cmp (a b : Int) : Int := if a < b then -1 else if a = b then 0 else 1
def order (w : Way) (z : Zone) (a b : Option Tm) : Option Int := match a, b with
  | some a, some b => some (cmp (key w z a) (key w z b))
  | _, _ => none
/-- a time of the library in the zone -/
def IsTm (w : Way) (z : Zone) (t : Tm) : Prop := t ∈ times w z t.1
section
variable {w : Way} {z : Zone} (h : OkZ z)
include h
theorem maxB_spec (rd : Int) : rd - 16 ≤ maxB z rd ∧ maxB z rd ≤ rd + 15 ∧ maxB z rd + off z (maxB z rd) < rd ∧ rd ≤ maxB z rd + 1 + off z (maxB z rd + 1) ∧
    (∀ k, rd - 16 ≤ k → k ≤ rd + 16 → k + off z k < rd → k ≤ maxB z rd) := by
  generalize hl : (irange (rd - 16) 33).filter (fun k => decide (k + off z k < rd)) = l
  have mem : ∀ k, k ∈ l ↔ (rd - 16 ≤ k ∧ k < rd + 17) ∧ k + off z k < rd := fun k => by
    rw [← hl, List.mem_filter, irange_mem, decide_eq_true_eq]
    constructor <;> intro q <;> exact ⟨by omega, q.2⟩
  have ris : l.Pairwise (· < ·) := by rw [← hl]; exact (irange_rise _ _).filter _
  have o1 := h.offs (rd - 16)
  have o2 := h.offs (rd + 16)
  have first : rd - 16 ∈ l := (mem _).2 ⟨by omega, by omega⟩
  cases e : l.getLast? with
  | none => rw [List.getLast?_eq_none_iff] at e; rw [e] at first; cases first
  | some m =>
    have hm : maxB z rd = m := by unfold maxB; rw [hl, e] <;> rfl
    obtain ⟨ys, ey⟩ := List.getLast?_eq_some_iff.mp e
    have up : ∀ k ∈ l, k ≤ m := fun k hk => by
      rw [ey] at hk ris
      rw [List.pairwise_append] at ris
      rcases List.mem_append.mp hk with q | q
      · have := ris.2.2 k q m (by simp)
        omega
      · have := List.mem_singleton.mp q
        omega
    have mm := (mem m).1 (by rw [ey]; simp)
    rw [hm]
    refine ⟨by omega, ?_, mm.2, ?_, fun k k1 k2 k3 => up k ((mem k).2 ⟨by omega, k3⟩)⟩
    · by_cases c : m = rd + 16
      · rw [c] at mm
        omega
      · omega
    · by_cases c : m + 1 + off z (m + 1) < rd
      · by_cases c2 : m + 1 ≤ rd + 16
        · have := up (m + 1) ((mem (m + 1)).2 ⟨by omega, c⟩)
          omega
        · have e : m = rd + 16 := by omega
          rw [e] at mm
          omega
      · omega
/-- in a gap: the change that skips the reading -/
structure InGap (z : Zone) (rd s a b : Int) : Prop where
  lt : b < a
  le : a ≤ b + 3
  bef : ∀ x, s - 12 ≤ x → x < s → off z x = b
  aft : ∀ x, s ≤ x → x ≤ s + 11 → off z x = a
  lo : s + b ≤ rd
  hi : rd < s + a
  bf : before z rd = b
theorem OkZ.gap {rd : Int} (e : insts z rd = []) : ∃ s a b, InGap z rd s a b := by
  obtain ⟨m1, m2, m3, m4, m5⟩ := maxB_spec h rd
  generalize hm : maxB z rd = m at *
  have no : ∀ k, k + off z k ≠ rd := fun k q => by
    have := (insts_mem h (t := rd) (k := k)).2 q
    rw [e] at this
    cases this
  have n1 := no (m + 1)
  have q := h.near3 (t := m) (u := m + 1) (by omega) (by omega)
  refine ⟨m + 1, off z (m + 1), off z m, by omega, by omega, ?_, ?_, by omega, by omega, by unfold before; rw [hm]⟩
  · intro x x1 x2
    obtain ⟨s, s1, s2, s3, s4⟩ := h.near (t := x) (u := m + 1) (by omega) (by omega)
    by_cases c : m < s
    · rw [s2 m (by omega) c]
    · have := s3 m (by omega) (by omega)
      omega
  · intro x x1 x2
    obtain ⟨s, s1, s2, s3, s4⟩ := h.near (t := m) (u := x) (by omega) (by omega)
    by_cases c : m + 1 < s
    · have := s2 (m + 1) (by omega) c
      omega
    · rw [s3 (m + 1) (by omega) (by omega)]
theorem insts_self (T : Int) : T ∈ insts z (T + off z T) := (insts_mem h).2 rfl
theorem insts_one {rd T : Int} (e : insts z rd = [T]) : T + off z T = rd := (insts_mem h).1 (by rw [e]; simp)
theorem at_valid {T : Int} {t : Tm} (e : at_ w z T = some t) : IsTm w z t ∧ t.1 = T + off z T := by
  unfold at_ at e
  have s := insts_self h T
  have l2 := h.le2 (T + off z T)
  split at e
  · cases e
  next c =>
    cases e
    refine ⟨?_, rfl⟩
    unfold IsTm times
    match q : insts z (T + off z T) with
    | [] => rw [q] at s; cases s
    | [a] =>
      rw [q] at s
      have : T = a := by simpa using s
      subst this
      simp
    | [a, b] =>
      simp only [List.length_cons, List.length_nil, if_true]
      rw [q] at c
      cases hf : w.fold with
      | both =>
        simp only [List.head?_cons, Option.getD_some]
        split <;> simp
      | first => simp
      | refuse => exact (c ⟨rfl, hf⟩).elim
      | second => simp
    | a :: b :: c :: l => rw [q] at l2; simp at l2
theorem read_valid {rd : Int} {t : Tm} (e : read_ w z rd = some t) : IsTm w z t := by
  unfold read_ at e
  have l2 := h.le2 rd
  split at e
  next c =>
    cases hg : w.gap with
    | shift =>
      rw [hg] at e
      exact (at_valid h e).1
    | refuse => rw [hg] at e; cases e
    | keep =>
      rw [hg] at e
      cases e
      unfold IsTm times
      show (rd, 0) ∈ _
      rw [c, hg]
      simp
  next c =>
    split at e
    · cases e
    next c2 =>
      cases e
      unfold IsTm times
      show (rd, 0) ∈ (if (insts z rd).length = 2 then _ else _)
      match q : insts z rd with
      | [] => exact (c q).elim
      | [a] => simp
      | [a, b] =>
        rw [q] at c2
        simp only [List.length_cons, List.length_nil, if_true]
        cases hf : w.fold with
        | both => simp
        | first => simp
        | refuse => exact (c2 ⟨hf, rfl⟩).elim
        | second => simp
      | a :: b :: c :: l => rw [q] at l2; simp at l2
theorem add_valid {o : Option Tm} {d : Int} {t : Tm} (e : addT w z o d = some t) : IsTm w z t := by
  cases o with
  | none => cases e
  | some u =>
    unfold addT at e
    simp only at e
    split at e
    · exact read_valid h e
    · exact (at_valid h e).1
end
/-- the passes of a time -/
theorem IsTm.pass {w : Way} {z : Zone} {t : Tm} (q : IsTm w z t) : t.2 = 0 ∨ (t.2 = 1 ∧ w.fold = .both ∧ (insts z t.1).length = 2) := by
  unfold IsTm times at q
  obtain ⟨r, p⟩ := t
  simp only at q ⊢
  split at q
  next c =>
    cases hf : w.fold <;> rw [hf] at q <;> simp at q
    · rcases q with q | q
      · exact .inl q
      · exact .inr ⟨q, rfl, c⟩
    · exact .inl q
    · exact .inl q
  · split at q
    · simp at q
      exact .inl q
    · cases q
theorem inst_near {w : Way} {z : Zone} (h : OkZ z) {t : Tm} (q : IsTm w z t) : t.1 - 20 ≤ inst w z t ∧ inst w z t ≤ t.1 + 20 := by
  unfold inst
  split
  next c =>
    unfold before
    have := h.offs (maxB z t.1)
    omega
  next c =>
    have near : ∀ k ∈ insts z t.1, t.1 - 20 ≤ k ∧ k ≤ t.1 + 20 := fun k hk => by
      have := (insts_mem h).1 hk
      have := h.offs k
      omega
    split
    next c2 =>
      cases e : (insts z t.1).getLast? with
      | none => rw [List.getLast?_eq_none_iff] at e; exact (c e).elim
      | some m => exact near m (List.mem_of_getLast? e)
    next c2 =>
      have lt : t.2.toNat < (insts z t.1).length := by
        have c3 : 0 < (insts z t.1).length := List.length_pos_iff.mpr c
        rcases q.pass with p | p
        · rw [p]; exact c3
        · rw [p.1, p.2.2]; decide
      rw [List.getElem?_eq_getElem lt]
      exact near _ (List.getElem_mem lt)
/-- round a change -/
theorem OkZ.chart {z : Zone} (h : OkZ z) {s : Int} (ne : off z s ≠ off z (s - 1)) :
    (∀ x, s - 12 ≤ x → x < s → off z x = off z (s - 1)) ∧ (∀ x, s ≤ x → x ≤ s + 11 → off z x = off z s) ∧ off z s - off z (s - 1) ≤ 3 ∧ off z (s - 1) - off z s ≤ 3 := by
  refine ⟨fun x x1 x2 => ?_, fun x x1 x2 => ?_, ?_⟩
  · obtain ⟨r, r1, r2, r3, r4⟩ := h.near (t := x) (u := s) (by omega) (by omega)
    by_cases c : s - 1 < r
    · rw [r2 (s - 1) (by omega) c]
    · have := r3 (s - 1) (by omega) (by omega)
      omega
  · obtain ⟨r, r1, r2, r3, r4⟩ := h.near (t := s - 1) (u := x) (by omega) (by omega)
    by_cases c : s < r
    · have := r2 s (by omega) c
      omega
    · rw [r3 s (by omega) (by omega)]
  · have := h.near3 (t := s - 1) (u := s) (by omega) (by omega)
    omega
/-- the one instant of a reading -/
theorem OkZ.one {z : Zone} (h : OkZ z) {rd T : Int} (e : T + off z T = rd) (no : ∀ x, T - 3 ≤ x → x ≤ T + 3 → x ≠ T → x + off z x ≠ rd) : insts z rd = [T] := by
  refine rise_ext (insts_rise z rd) (by simp) fun k => ?_
  rw [insts_mem h, List.mem_singleton]
  constructor
  · intro q
    by_cases c : k = T
    · exact c
    · rcases Int.lt_or_gt_of_ne c with c1 | c1
      · have := h.back (t := k) (u := T) c1 (by omega)
        exact (no k (by omega) (by omega) c q).elim
      · have := h.back (t := T) (u := k) c1 (by omega)
        exact (no k (by omega) (by omega) c q).elim
  · intro q
    rw [q]
    exact e
/-- below a gap or a fold of a change -/
theorem OkZ.below {z : Zone} (h : OkZ z) {s : Int} (ne : off z s ≠ off z (s - 1)) : ∃ T, insts z (s - 1 + (if off z s < off z (s - 1) then off z s else off z (s - 1))) = [T] := by
  obtain ⟨c1, c2, c3, c4⟩ := h.chart ne
  split
  next c =>
    refine ⟨s - 1 + off z s - off z (s - 1), h.one ?_ fun x x1 x2 x3 x4 => ?_⟩
    · have := c1 (s - 1 + off z s - off z (s - 1)) (by omega) (by omega)
      omega
    · by_cases d : x < s
      · have := c1 x (by omega) d
        omega
      · have := c2 x (by omega) (by omega)
        omega
  next c =>
    refine ⟨s - 1, h.one rfl fun x x1 x2 x3 x4 => ?_⟩
    by_cases d : x < s
    · have := c1 x (by omega) d
      omega
    · have := c2 x (by omega) (by omega)
      omega
theorem OkZ.pair {z : Zone} (h : OkZ z) {rd a b : Int} (e : insts z rd = [a, b]) : a < b ∧ a + off z a = rd ∧ b + off z b = rd ∧ b ≤ a + 3 := by
  have r := insts_rise z rd
  have m := fun k => insts_mem h (t := rd) (k := k)
  rw [e] at r m
  simp only [List.pairwise_cons] at r
  have h1 := r.1 b (by simp)
  have e1 := (m a).1 (by simp)
  have e2 := (m b).1 (by simp)
  exact ⟨h1, e1, e2, h.back h1 (by omega)⟩
/-- of two instants with one reading one change lies between -/
theorem OkZ.fold {z : Zone} (h : OkZ z) {rd a b : Int} (e : insts z rd = [a, b]) : ∃ s, a < s ∧ s ≤ b ∧ off z s < off z (s - 1) ∧ off z a = off z (s - 1) ∧ off z b = off z s := by
  obtain ⟨p1, p2, p3, p4⟩ := h.pair e
  obtain ⟨s, s1, s2, s3, s4⟩ := h.near (t := a) (u := b) (by omega) (by omega)
  have c : s ≤ b := by
    by_cases c : s ≤ b
    · exact c
    · have := s2 b (by omega) (by omega)
      omega
  have f1 := s2 (s - 1) (by omega) (by omega)
  have f2 := s3 s (by omega) c
  exact ⟨s, s1, c, by omega, f1.symm, f2.symm⟩
theorem times_one {w : Way} {z : Zone} {rd T : Int} (e : insts z rd = [T]) : times w z rd = [(rd, 0)] := by
  unfold times
  rw [e]
  simp
theorem times_some {w : Way} {z : Zone} (h : OkZ z) (rd : Int) : ∃ i : Nat, i ≤ 8 ∧ times w z (rd - i) ≠ [] := by
  have fin : ∀ s, off z s ≠ off z (s - 1) → 0 ≤ rd - (s - 1 + (if off z s < off z (s - 1) then off z s else off z (s - 1))) → rd - (s - 1 + (if off z s < off z (s - 1) then off z s else off z (s - 1))) ≤ 8 → ∃ i : Nat, i ≤ 8 ∧ times w z (rd - i) ≠ [] := by
    intro s ne b1 b2
    obtain ⟨T, e⟩ := h.below ne
    refine ⟨(rd - (s - 1 + (if off z s < off z (s - 1) then off z s else off z (s - 1)))).toNat, by omega, ?_⟩
    rw [show rd - ((rd - (s - 1 + (if off z s < off z (s - 1) then off z s else off z (s - 1)))).toNat : Int) = s - 1 + (if off z s < off z (s - 1) then off z s else off z (s - 1)) by omega, times_one e]
    exact List.cons_ne_nil _ _
  have l2 := h.le2 rd
  match e : insts z rd with
  | [] =>
    obtain ⟨s, a, b, G⟩ := h.gap e
    have f1 := G.bef (s - 1) (by omega) (by omega)
    have f2 := G.aft s (by omega) (by omega)
    have := G.lt
    have := G.le
    have := G.lo
    have := G.hi
    refine fin s (by omega) ?_ ?_ <;> rw [if_neg (by omega)] <;> omega
  | [a] => exact ⟨0, by omega, by rw [show rd - ((0 : Nat) : Int) = rd by omega, times_one e]; exact List.cons_ne_nil _ _⟩
  | [a, b] =>
    obtain ⟨p1, p2, p3, p4⟩ := h.pair e
    obtain ⟨s, s1, s2, s3, s4, s5⟩ := h.fold e
    obtain ⟨c1, c2, c3, c4⟩ := h.chart (s := s) (by omega)
    refine fin s (by omega) ?_ ?_ <;> rw [if_pos s3] <;> omega
  | a :: b :: c :: l => rw [e] at l2; simp at l2
theorem times_rd {w : Way} {z : Zone} {rd : Int} {t : Tm} (h : t ∈ times w z rd) : t.1 = rd := by
  unfold times at h
  split at h
  · cases hf : w.fold <;> rw [hf] at h <;> simp at h
    · rcases h with h | h <;> rw [h]
    · rw [h]
    · rw [h]
  · split at h
    · simp at h
      rw [h]
    · cases h
local macro_rules | `(tactic| walk_at "m") => `(tactic| first
  | with_reducible refine g_m1 ?_
  | with_reducible refine g_isS ?_
  | with_reducible refine g_lcStr ?_
  | with_reducible refine g_join ?_
  | with_reducible refine g_js ?_
  | with_reducible refine g_jsN ?_
  | with_reducible refine g_fmt ?_
  | with_reducible refine g_callLam ?_
  | with_reducible refine g_revT ?_)
local macro_rules | `(tactic| walk_at "m") => `(tactic| first
  | with_reducible refine g_sfld ?_
  | with_reducible refine g_fld ?_
  | with_reducible refine g_meth ?_
  | with_reducible refine g_make ?_
  | with_reducible refine g_prop ?_
  | with_reducible refine g_del ?_)

def WayV (K : PySem.W.Frag) (H : Hp) (v : V) (w : Way) : Prop := ∃ a, v = .ref a ∧ SqT K H a [.str (sumS w.ws), .str (sumS w.wo), .str (gapS w.gap), .str (foldS w.fold)]
theorem WayV.tr {K : PySem.W.Frag} {H H' : Hp} {v : V} {w : Way} (e : TrT K H H') (h : WayV K H v w) : WayV K H' v w := by
  obtain ⟨a, q, h⟩ := h
  exact ⟨a, q, e _ _ h⟩
/-- an int far from the machine's edges -/
def Sm (x : Int) : Prop := -100000000 ≤ x ∧ x ≤ 100000000
def Sn (x : Int) : Prop := -90000000 ≤ x ∧ x ≤ 90000000
theorem insts_last {z : Zone} {t : Int} (c : insts z t ≠ []) : (insts z t).getLast? = some ((insts z t).getLast?.getD 0) := by
  cases e : (insts z t).getLast? with
  | none => rw [List.getLast?_eq_none_iff] at e; exact (c e).elim
  | some m => rfl
theorem merge2 {k1 k2 : Key} {a b : V} (h : k1 ≠ k2) : mergeK [] [(k1, a), (k2, b)] = [(k1, a), (k2, b)] := by
  unfold mergeK
  simp [putK, h, h.symm]
theorem val2 {x y k : Str} {a b : V} : valV [((Sum.inr x : Key), a), (Sum.inr y, b)] (Sum.inr k : Key) = if x = k then some a else if y = k then some b else none := by
  by_cases h1 : x = k
  · rw [if_pos h1, valV_pos (by rw [h1])]
  · rw [if_neg h1, valV_neg (fun h => h1 (Sum.inr.inj h))]
    by_cases h2 : y = k
    · rw [if_pos h2, valV_pos (by rw [h2])]
    · rw [if_neg h2, valV_neg (fun h => h2 (Sum.inr.inj h)), valV_nil]
theorem val_fold {f : Fold} {a b : V} : valV [((Sum.inr ("both" : Str) : Key), a), (Sum.inr ("refuse" : Str), b)] (Sum.inr (foldS f) : Key) = (match f with | .both => some a | .refuse => some b | _ => none) := by
  rw [val2]
  cases f
  · exact if_pos rfl
  · exact (if_neg (by decide +kernel)).trans (if_neg (by decide +kernel))
  · exact (if_neg (by decide +kernel)).trans (if_pos rfl)
  · exact (if_neg (by decide +kernel)).trans (if_neg (by decide +kernel))
/-! ### promises -/
def sp_law_library (K : PySem.W.Frag) : Sp := fun vs H Q _ => ∃ ρ : Rw, vs = [.ref ρ.1] ∧ Row K H ρ ∧ ∀ v w H', Fr ρ.1 H H' → Row K H' ρ → WayV K H' v w → Q v H'
def sp_law_before (K : PySem.W.Frag) : Sp := fun vs H Q _ => ∃ (zv : V) (z : Zone) (t : Int), vs = [zv, .int t] ∧ ZV K H zv z ∧ OkZ z ∧ Sm t ∧ ∀ H', Ex H H' → Q (.int (before z t)) H'
def sp_law_times (K : PySem.W.Frag) : Sp := fun vs H Q _ => ∃ (wv zv : V) (w : Way) (z : Zone) (t : Int), vs = [wv, zv, .int t] ∧ WayV K H wv w ∧ ZV K H zv z ∧ OkZ z ∧ Sm t ∧
  ∀ p xs H', H p = none → Ex H H' → H' p = some (.lst xs) → PVs K H' xs (times w z t) → Q (.ref p) H'
def sp_law_instant (K : PySem.W.Frag) : Sp := fun vs H Q _ => ∃ (wv zv tv : V) (w : Way) (z : Zone) (t : Tm), vs = [wv, zv, tv] ∧ WayV K H wv w ∧ ZV K H zv z ∧ OkZ z ∧ PV K H tv t ∧ IsTm w z t ∧ Sm t.1 ∧ ∀ H', Ex H H' → Q (.int (inst w z t)) H'
def sp_law_at (K : PySem.W.Frag) : Sp := fun vs H Q _ => ∃ (wv zv : V) (w : Way) (z : Zone) (t : Int), vs = [wv, zv, .int t] ∧ WayV K H wv w ∧ ZV K H zv z ∧ OkZ z ∧ Sm t ∧ ∀ v H', Ex H H' → TV K H' v (at_ w z t) → Q v H'
def sp_law_read (K : PySem.W.Frag) : Sp := fun vs H Q _ => ∃ (wv zv : V) (w : Way) (z : Zone) (t : Int), vs = [wv, zv, .int t] ∧ WayV K H wv w ∧ ZV K H zv z ∧ OkZ z ∧ Sn t ∧ ∀ v H', Ex H H' → TV K H' v (read_ w z t) → Q v H'
def OkT (w : Way) (z : Zone) (o : Option Tm) : Prop := ∀ t, o = some t → IsTm w z t ∧ Sm t.1
def sp_law_add (K : PySem.W.Frag) : Sp := fun vs H Q _ => ∃ (wv zv tv : V) (w : Way) (z : Zone) (o : Option Tm) (d : Int), vs = [wv, zv, tv, .int d] ∧ WayV K H wv w ∧ ZV K H zv z ∧ OkZ z ∧ TV K H tv o ∧ OkT w z o ∧ (∀ t, o = some t → Sn (t.1 + d + 20) ∧ Sn (t.1 + d - 20)) ∧
  ∀ v H', Ex H H' → TV K H' v (addT w z o d) → Q v H'
def sp_law_less (K : PySem.W.Frag) : Sp := fun vs H Q _ => ∃ (wv zv av bv : V) (w : Way) (z : Zone) (a b : Tm), vs = [wv, zv, av, bv] ∧ WayV K H wv w ∧ ZV K H zv z ∧ OkZ z ∧ PV K H av a ∧ PV K H bv b ∧ IsTm w z a ∧ Sm a.1 ∧ IsTm w z b ∧ Sm b.1 ∧
  ∀ H', Ex H H' → Q (.int (less_ w z a b)) H'
def ordV : Option Int → V
  | none => .non
  | some i => .int i
def sp_law_order (K : PySem.W.Frag) : Sp := fun vs H Q _ => ∃ (wv zv av bv : V) (w : Way) (z : Zone) (a b : Option Tm), vs = [wv, zv, av, bv] ∧ WayV K H wv w ∧ ZV K H zv z ∧ OkZ z ∧ TV K H av a ∧ TV K H bv b ∧ OkT w z a ∧ OkT w z b ∧
  ∀ H', Ex H H' → Q (ordV (order w z a b)) H'
def sp_law_hours (K : PySem.W.Frag) : Sp := fun vs H Q _ => ∃ ρ : Rw, vs = [.ref ρ.1] ∧ Row K H ρ ∧ ∀ d H', -400 ≤ d → d ≤ 400 → Fr ρ.1 H H' → Row K H' ρ → Q (.int d) H'
def sp_law_time (K : PySem.W.Frag) : Sp := fun vs H Q _ => ∃ (ρ : Rw) (wv zv : V) (w : Way) (z : Zone), vs = [.ref ρ.1, wv, zv] ∧ Row K H ρ ∧ WayV K H wv w ∧ ZV K H zv z ∧ OkZ z ∧
  ∀ v t H', Fr ρ.1 H H' → Row K H' ρ → PV K H' v t → IsTm w z t → -3000 ≤ t.1 → t.1 ≤ 3000 → Q v H'
section
variable {P : Program} {w : World} {K : PySem.W.Frag} {mg : Str → Option Value} {base : Heap}
theorem ok_law_library (T : Txt w K mg) : FnOk P w K mg base CX0 3 T.f_law_library.f T.f_law_library.fd ["row"] (sp_law_library K) := by
  refine T.f_law_library.F.ok sc_law_library (fun vs H Q E h => ?_) (fun cdv A outer s H vs Q E hr h => ?_)
  · obtain ⟨ρ, rfl, _⟩ := h
    rfl
  obtain ⟨ρ, rfl, hR, k⟩ := h
  refine ⟨(tSeq (tPar 1 2 (tCons (tCall (sp_law_pick K) [] E0 (tCons (tVar 0) (tCons (tLst (tCons (tC (.str "elapsed")) (tCons (tC (.str "wall")) tNil))) tNil))) (tCons (tCall (sp_law_pick K) [] E0 (tCons (tVar 0) (tCons (tLst (tCons (tC (.str "elapsed")) (tCons (tC (.str "wall")) tNil))) tNil))) tNil))) (tRet (tTup (tCons (tVar 1) (tCons (tVar 2) (tCons (tCall (sp_law_pick K) [] E0 (tCons (tVar 0) (tCons (tLst (tCons (tC (.str "keep")) (tCons (tC (.str "refuse")) (tCons (tC (.str "shift")) tNil)))) tNil))) (tCons (tCall (sp_law_pick K) [] E0 (tCons (tVar 0) (tCons (tLst (tCons (tC (.str "both")) (tCons (tC (.str "first")) (tCons (tC (.str "refuse")) (tCons (tC (.str "second")) tNil))))) tNil))) tNil))))))),
    PSs.nox (pss_cons (ps_par (by rfl) sc_law_library.nd rfl rfl (by decide) rfl rfl (pa_cons (pe_call (ok_law_pick T) (hr.mono (by decide)) (by rfl) T.f_law_pick.g T.f_law_pick.F.kp T.f_law_pick.b .nil pass0 (pa_cons (pv 0) (pa_cons (pe_lst (pa_cons pe_str (pa_cons pe_str pa_nil))) pa_nil))) (pa_cons (pe_call (ok_law_pick T) (hr.mono (by decide)) (by rfl) T.f_law_pick.g T.f_law_pick.F.kp T.f_law_pick.b .nil pass0 (pa_cons (pv 0) (pa_cons (pe_lst (pa_cons pe_str (pa_cons pe_str pa_nil))) pa_nil))) pa_nil)) (by rfl)) (pss_one (ps_ret (pe_tup (pa_cons (pv 1) (pa_cons (pv 2) (pa_cons (pe_call (ok_law_pick T) (hr.mono (by decide)) (by rfl) T.f_law_pick.g T.f_law_pick.F.kp T.f_law_pick.b .nil pass0 (pa_cons (pv 0) (pa_cons (pe_lst (pa_cons pe_str (pa_cons pe_str (pa_cons pe_str pa_nil)))) pa_nil))) (pa_cons (pe_call (ok_law_pick T) (hr.mono (by decide)) (by rfl) T.f_law_pick.g T.f_law_pick.F.kp T.f_law_pick.b .nil pass0 (pa_cons (pv 0) (pa_cons (pe_lst (pa_cons pe_str (pa_cons pe_str (pa_cons pe_str (pa_cons pe_str pa_nil))))) pa_nil))) pa_nil)))))))), ?_⟩
  walk_at "gg"
  refine g_newL (by simp) fun l1 H1 n1 e1 h1 => ?_
  walk_at "gg"
  obtain ⟨_, q0⟩ := hR.lst
  refine ⟨ρ, _, _, rfl, hR.ex e1, h1, (ne_of_none q0 n1).symm, by simp, by simp, fun x H2 m2 e2 R2 => ?_⟩
  walk_at "gg"
  refine g_newL (by simp) fun l3 H3 n3 e3 h3 => ?_
  walk_at "gg"
  obtain ⟨_, q2⟩ := R2.lst
  refine ⟨ρ, _, _, rfl, R2.ex e3, h3, (ne_of_none q2 n3).symm, by simp, by simp, fun y H4 m4 e4 R4 => ?_⟩
  walk_at "gg"
  refine g_newL (by simp) fun l5 H5 n5 e5 h5 => ?_
  walk_at "gg"
  obtain ⟨_, q4⟩ := R4.lst
  refine ⟨ρ, _, _, rfl, R4.ex e5, h5, (ne_of_none q4 n5).symm, by simp, by simp, fun u H6 m6 e6 R6 => ?_⟩
  walk_at "gg"
  refine g_newL (by simp) fun l7 H7 n7 e7 h7 => ?_
  walk_at "gg"
  obtain ⟨_, q6⟩ := R6.lst
  refine ⟨ρ, _, _, rfl, R6.ex e7, h7, (ne_of_none q6 n7).symm, by simp, by simp, fun v H8 m8 e8 R8 => ?_⟩
  walk_at "gg"
  refine g_newT (by simp) fun t9 H9 n9 e9 h9 => ?_
  obtain ⟨b1, rfl⟩ : ∃ b, x = .str (sumS b) := by
    simp only [List.mem_cons, List.not_mem_nil, or_false] at m2
    rcases m2 with rfl | rfl
    · exact ⟨false, rfl⟩
    · exact ⟨true, rfl⟩
  obtain ⟨b2, rfl⟩ : ∃ b, y = .str (sumS b) := by
    simp only [List.mem_cons, List.not_mem_nil, or_false] at m4
    rcases m4 with rfl | rfl
    · exact ⟨false, rfl⟩
    · exact ⟨true, rfl⟩
  obtain ⟨b3, rfl⟩ : ∃ b, u = .str (gapS b) := by
    simp only [List.mem_cons, List.not_mem_nil, or_false] at m6
    rcases m6 with rfl | rfl | rfl
    · exact ⟨.keep, rfl⟩
    · exact ⟨.refuse, rfl⟩
    · exact ⟨.shift, rfl⟩
  obtain ⟨b4, rfl⟩ : ∃ b, v = .str (foldS b) := by
    simp only [List.mem_cons, List.not_mem_nil, or_false] at m8
    rcases m8 with rfl | rfl | rfl | rfl
    · exact ⟨.both, rfl⟩
    · exact ⟨.first, rfl⟩
    · exact ⟨.refuse, rfl⟩
    · exact ⟨.second, rfl⟩
  refine k _ ⟨b1, b2, b3, b4⟩ H9 ?_ (R8.ex e9) ⟨t9, rfl, SqT.of h9⟩
  exact ((((Fr.of e1).trans e2).trans (Fr.of e3)).trans e4).trans ((((Fr.of e5).trans e6).trans (Fr.of e7)).trans (e8.trans (Fr.of e9)))
theorem ok_law_before (T : Txt w K mg) : FnOk P w K mg base CX0 2 T.f_law_before.f T.f_law_before.fd ["zone", "reading"] (sp_law_before K) := by
  refine T.f_law_before.F.ok sc_law_before (fun vs H Q E h => ?_) (fun cdv A outer s H vs Q E hr h => ?_)
  · obtain ⟨zv, z, t, rfl, _⟩ := h
    rfl
  obtain ⟨zv, z, t, rfl, hv, hz, b1, k⟩ := h
  unfold Sm at b1
  obtain ⟨m1, m2, m3, m4, m5⟩ := maxB_spec hz t
  refine ⟨(tSeq (tAsg (tCB (rMax K) (tCons (tLc (iRng2 (tCons (tOp (rI0 fun i j => .int (i - j)) (tVar 1) (tC (.int 16))) (tCons (tOp (rI0 fun i j => .int (i + j)) (tVar 1) (tC (.int 17))) tNil))) (gName 3) (tTest (tOp (rI0 fun i j => .bl (decide (i < j))) (tOp (rI0 fun i j => .int (i + j)) (tVar 3) (tCall (sp_law_offset K) [] E0 (tCons (tVar 0) (tCons (tVar 3) tNil)))) (tVar 1))) (tVar 3) [3]) tNil)) (gName 2)) (tRet (tCall (sp_law_offset K) [] E0 (tCons (tVar 0) (tCons (tVar 2) tNil))))),
    PSs.nox (pss_cons (ps_set (i := 2) sc_law_before.nd rfl (Or.inl rfl) (pe_callB (cr_max rfl) (by rfl) T.z_max (by decide +kernel) (pa_cons (pe_lc (own := [("each", 3)]) rfl sc_law_before.nd (pi_range2 (by rfl) T.z_range (pa_cons (pe_op op_sub (pv 1) pe_int) (pa_cons (pe_op op_add (pv 1) pe_int) pa_nil))) (blkOk_by (own := [("each", 3)]) (N := ["zone", "reading", "last", "each"]) (sc := (defScope s_law_before)) (by decide +kernel)) (fun _ _ _ _ _ => (pg_name (i := 3) sc_law_before.nd rfl (Or.inl rfl))) (fun _ _ _ _ _ => (pts_one (pt_cmpR op_lt (pe_op op_add (pv 3) (pe_call (ok_law_offset T) (hr.mono (by decide)) (by rfl) T.f_law_offset.g T.f_law_offset.F.kp T.f_law_offset.b .nil pass0 (pa_cons (pv 0) (pa_cons (pv 3) pa_nil)))) (pv 1) (nomark _)))) (fun _ _ _ _ _ => (pv 3))) pa_nil))) (pss_one (ps_ret (pe_call (ok_law_offset T) (hr.mono (by decide)) (by rfl) T.f_law_offset.g T.f_law_offset.F.kp T.f_law_offset.b .nil pass0 (pa_cons (pv 0) (pa_cons (pv 2) pa_nil)))))), ?_⟩
  walk_at "gg"
  refine g_lcRng2 ?_
  walk_at "gg"
  refine g_lcR2 (by omega) (by omega) (by omega) (by omega) (fun k => decide (k + off z k < t)) (fun k => .int k) ?_ ?_
  · rintro i H2 e2 _ _ R S hR hS
    walk_at "gg"
    refine ⟨rfl, ?_⟩
    walk_at "gg"
    refine ⟨_, _, _, rfl, hv.tr (TrT.of e2), hz, fun H3 e3 => ?_⟩
    walk_at "gg"
    refine if_d (fun c => ?_) (fun c => ?_)
    · walk_at "gg"
      exact hS (decide_eq_true c) _ e3
    · exact hR (decide_eq_false c) _ e3
  intro D H1 n1 e1 h1
  walk_at "gg"
  have mem : ∀ k, k ∈ (irange (t - 16) (t + 17 - (t - 16)).toNat).filter (fun k => decide (k + off z k < t)) ↔ (t - 16 ≤ k ∧ k < t + 17) ∧ k + off z k < t := fun k => by
    rw [List.mem_filter, irange_mem, decide_eq_true_eq]
    constructor <;> intro q <;> exact ⟨by omega, q.2⟩
  have mm := (mem (maxB z t)).2 ⟨by omega, m3⟩
  refine g_maxL (SqL.of h1) (List.length_pos_of_mem mm) fun m hm hle => ?_
  have em : m = maxB z t := by
    have q1 := hle _ mm
    have q2 := (mem m).1 hm
    have q3 := m5 m q2.1.1 (by omega) q2.2
    omega
  subst em
  walk_at "gg"
  exact ⟨_, _, _, rfl, hv.tr (TrT.of e1), hz, fun H2 e2 => k H2 (e1.trans e2)⟩
theorem ok_law_instant (T : Txt w K mg) : FnOk P w K mg base CX0 3 T.f_law_instant.f T.f_law_instant.fd ["way", "zone", "time"] (sp_law_instant K) := by
  refine T.f_law_instant.F.ok sc_law_instant (fun vs H Q E h => ?_) (fun cdv A outer s H vs Q E hr h => ?_)
  · obtain ⟨wv, zv, tv, w, z, t, rfl, _⟩ := h
    rfl
  obtain ⟨wv, zv, tv, w, z, t, rfl, ⟨wa, rfl, hw⟩, hv, hz, ⟨ta, rfl, ht⟩, hi, b1, k⟩ := h
  unfold Sm at b1
  unfold inst at k
  refine ⟨(tSeq (tAsg (tCall (sp_law_instants K) [] E0 (tCons (tVar 1) (tCons (tOp (rIxT K) (tVar 2) (tC (.int 0))) tNil))) (gName 3)) (tSeq (tIfS (tTest (tOp (rEqD K) (tVar 3) (tLst tNil))) (tRet (tOp (rI0 fun i j => .int (i - j)) (tOp (rIxT K) (tVar 2) (tC (.int 0))) (tCall (sp_law_before K) [] E0 (tCons (tVar 1) (tCons (tOp (rIxT K) (tVar 2) (tC (.int 0))) tNil))))) tNext) (tRet (tIf (tTest (tOp rEq (tOp (rIxT K) (tVar 0) (tC (.int 3))) (tC (.str "second")))) (tOp (rIxL K) (tVar 3) (tUn (rU fun i => .int (-i)) (tC (.int 1)))) (tOp (rIxL K) (tVar 3) (tOp (rIxT K) (tVar 2) (tC (.int 1)))))))),
    PSs.nox (pss_cons (ps_set (i := 3) sc_law_instant.nd rfl (Or.inl rfl) (pe_call (ok_law_instants T) (hr.mono (by decide)) (by rfl) T.f_law_instants.g T.f_law_instants.F.kp T.f_law_instants.b .nil pass0 (pa_cons (pv 1) (pa_cons (pe_ix ix_tup (pv 2) pe_int (fun _ _ => rfl)) pa_nil)))) (pss_cons (ps_if (pt_cmpR (op_eqD hr.units) (pv 3) (pe_lst pa_nil) (nomark _)) (pss_one (ps_ret (pe_op op_sub (pe_ix ix_tup (pv 2) pe_int (fun _ _ => rfl)) (pe_call (ok_law_before T) (hr.mono (by decide)) (by rfl) T.f_law_before.g T.f_law_before.F.kp T.f_law_before.b .nil pass0 (pa_cons (pv 1) (pa_cons (pe_ix ix_tup (pv 2) pe_int (fun _ _ => rfl)) pa_nil)))))) pss_nil) (pss_one (ps_ret (pe_ifExp (pt_cmpR op_eq (pe_ix ix_tup (pv 0) pe_int (fun _ _ => rfl)) pe_str (nomark _)) (pe_ix ix_list (pv 3) (pe_un un_neg pe_int) (fun _ _ => rfl)) (pe_ix ix_list (pv 3) (pe_ix ix_tup (pv 2) pe_int (fun _ _ => rfl)) (fun _ _ => rfl))))))), ?_⟩
  walk_at "gg"
  refine ⟨_, _, _, rfl, hv, hz, by omega, by omega, fun p H1 n1 e1 h1 => ?_⟩
  walk_at "gg"
  refine g_newL (by simp) fun l2 H2 n2 e2 h2 => ?_
  refine g_eqNil (e2 _ _ h1) h2 ?_
  walk_at "gg"
  by_cases c : insts z t.1 = []
  · rw [if_pos c] at k
    rw [show (insts z t.1).isEmpty = true by rw [c] <;> rfl]
    walk_at "gg"
    refine ⟨_, _, _, rfl, (hv.tr (TrT.of (e1.trans e2))), hz, b1, fun H3 e3 => ?_⟩
    walk_at "gg"
    exact k _ ((e1.trans e2).trans e3)
  · rw [if_neg c] at k
    rw [show (insts z t.1).isEmpty = false by cases q : insts z t.1 with | nil => exact (c q).elim | cons _ _ => rfl]
    walk_at "gg"
    rw [fold_second]
    refine if_d (fun c2 => ?_) (fun c2 => ?_)
    · rw [if_pos c2] at k
      walk_at "gg"
      refine g_ixL (SqL.of (e2 _ _ h1)) (atI_end (v := V.int ((insts z t.1).getLast?.getD 0)) ?_) (k _ (e1.trans e2))
      rw [List.getLast?_map, insts_last c]
      rfl
    · rw [if_neg c2] at k
      walk_at "gg"
      have lt : t.2.toNat < (insts z t.1).length := by
        have c3 : 0 < (insts z t.1).length := List.length_pos_iff.mpr c
        rcases hi.pass with p | p
        · rw [p]; exact c3
        · rw [p.1, p.2.2]; decide
      have p0 : 0 ≤ t.2 := by rcases hi.pass with p | p <;> omega
      rw [List.getElem?_eq_getElem lt] at k
      refine g_ixL (SqL.of (e2 _ _ h1)) (v := .int ((insts z t.1)[t.2.toNat])) (atI_of p0 ?_) (k _ (e1.trans e2))
      rw [List.getElem?_map, List.getElem?_eq_getElem lt]
      rfl
theorem ok_law_at (T : Txt w K mg) : FnOk P w K mg base CX0 3 T.f_law_at.f T.f_law_at.fd ["way", "zone", "instant"] (sp_law_at K) := by
  refine T.f_law_at.F.ok sc_law_at (fun vs H Q E h => ?_) (fun cdv A outer s H vs Q E hr h => ?_)
  · obtain ⟨wv, zv, w, z, t, rfl, _⟩ := h
    rfl
  obtain ⟨wv, zv, w, z, t, rfl, ⟨wa, rfl, hw⟩, hv, hz, b1, k⟩ := h
  unfold Sm at b1
  have ho := hz.offs t
  have hs := insts_self hz t
  unfold at_ at k
  refine ⟨(tSeq (tAsg (tOp (rI0 fun i j => .int (i + j)) (tVar 2) (tCall (sp_law_offset K) [] E0 (tCons (tVar 1) (tCons (tVar 2) tNil)))) (gName 3)) (tSeq (tAsg (tCall (sp_law_instants K) [] E0 (tCons (tVar 1) (tCons (tVar 3) tNil))) (gName 4)) (tSeq (tIfS (tAnd (tTest (tOp rEq (tCB (Evl.rLenS K) (tCons (tVar 4) tNil)) (tC (.int 2)))) (tTest (tOp rEq (tOp (rIxT K) (tVar 0) (tC (.int 3))) (tC (.str "refuse"))))) (tRet (tC (.str "refused"))) tNext) (tRet (tTup (tCons (tVar 3) (tCons (tIf (tAnd (tTest (tOp rEq (tOp (rIxT K) (tVar 0) (tC (.int 3))) (tC (.str "both")))) (tTest (tOp rNe (tVar 2) (tOp (rIxL K) (tVar 4) (tC (.int 0)))))) (tC (.int 1)) (tC (.int 0))) tNil))))))),
    PSs.nox (pss_cons (ps_set (i := 3) sc_law_at.nd rfl (Or.inl rfl) (pe_op op_add (pv 2) (pe_call (ok_law_offset T) (hr.mono (by decide)) (by rfl) T.f_law_offset.g T.f_law_offset.F.kp T.f_law_offset.b .nil pass0 (pa_cons (pv 1) (pa_cons (pv 2) pa_nil))))) (pss_cons (ps_set (i := 4) sc_law_at.nd rfl (Or.inl rfl) (pe_call (ok_law_instants T) (hr.mono (by decide)) (by rfl) T.f_law_instants.g T.f_law_instants.F.kp T.f_law_instants.b .nil pass0 (pa_cons (pv 1) (pa_cons (pv 3) pa_nil)))) (pss_cons (ps_if (PW.pt (pw_and (pt_cmpR op_eq (pe_callB call_len_seq (by rfl) T.z_len (by decide +kernel) (pa_cons (pv 4) pa_nil)) pe_int (nomark _)) (pw_and1 (pt_cmpR op_eq (pe_ix ix_tup (pv 0) pe_int (fun _ _ => rfl)) pe_str (nomark _))))) (pss_one (ps_ret pe_str)) pss_nil) (pss_one (ps_ret (pe_tup (pa_cons (pv 3) (pa_cons (pe_ifExp (PW.pt (pw_and (pt_cmpR op_eq (pe_ix ix_tup (pv 0) pe_int (fun _ _ => rfl)) pe_str (nomark _)) (pw_and1 (pt_cmpR op_ne (pv 2) (pe_ix ix_list (pv 4) pe_int (fun _ _ => rfl)) (nomark _))))) pe_int pe_int) pa_nil)))))))), ?_⟩
  walk_at "gg"
  refine ⟨_, _, _, rfl, hv, hz, fun H1 e1 => ?_⟩
  walk_at "gg"
  refine ⟨_, _, _, rfl, hv.tr (TrT.of e1), hz, by omega, by omega, fun p H2 n2 e2 h2 => ?_⟩
  walk_at "nn"
  generalize hl : insts z (t + off z t) = l at *
  refine cutS (ts := tIfS _ _ _) (fun σ' H' => σ' = [some (.ref wa), some zv, some (.int t), some (.int (t + off z t)), some (.ref p)] ∧ H2 = H' ∧ ¬ (l.length = 2 ∧ w.fold = .refuse)) ?_ ?_
  · intro n' k'
    walk_at "gg"
    refine g_lenL (SqL.of h2) ?_
    rw [List.length_map]
    walk_at "gg"
    refine if_d (fun c => ?_) (fun c => ?_)
    · walk_at "gg"
      rw [fold_refuse]
      refine if_d (fun c2 => ?_) (fun c2 => ?_)
      · walk_at "gg"
        rw [if_pos ⟨by omega, c2⟩] at k
        exact k _ _ (e1.trans e2) rfl
      · walk_at "gg"
        exact k' _ _ ⟨rfl, rfl, fun q => c2 q.2⟩
    · walk_at "gg"
      exact k' _ _ ⟨rfl, rfl, fun q => c (by omega)⟩
  rintro _ _ ⟨rfl, rfl, c⟩
  rw [if_neg c] at k
  have fin : ∀ (x : Int), (if w.fold = .both ∧ t ≠ l.head?.getD 0 then (1 : Int) else 0) = x → NewT [V.int (t + off z t), .int x] H2 Q := by
    intro x ex
    rw [ex] at k
    refine g_newT (by simp) fun t3 H3 n3 e3 h3 => ?_
    exact k _ H3 ((e1.trans e2).trans e3) ⟨t3, rfl, SqT.of h3⟩
  walk_at "gg"
  rw [fold_both]
  refine if_d (fun c1 => ?_) (fun c1 => ?_)
  · walk_at "gg"
    obtain ⟨a, l', rfl⟩ : ∃ a l', l = a :: l' := by
      cases l with
      | nil => cases hs
      | cons a l' => exact ⟨a, l', rfl⟩
    refine g_ixL (SqL.of h2) (v := .int a) (atI_of (by omega) (by simp)) ?_
    walk_at "gg"
    refine if_nd (fun c2 => ?_) (fun c2 => ?_)
    · walk_at "gg"
      exact fin 1 (if_pos ⟨c1, c2⟩)
    · walk_at "gg"
      exact fin 0 (if_neg fun q => q.2 c2)
  · walk_at "gg"
    exact fin 0 (if_neg fun q => c1 q.1)
theorem ok_law_read (T : Txt w K mg) : FnOk P w K mg base CX0 4 T.f_law_read.f T.f_law_read.fd ["way", "zone", "reading"] (sp_law_read K) := by
  refine T.f_law_read.F.ok sc_law_read (fun vs H Q E h => ?_) (fun cdv A outer s H vs Q E hr h => ?_)
  · obtain ⟨wv, zv, w, z, t, rfl, _⟩ := h
    rfl
  obtain ⟨wv, zv, w, z, t, rfl, hwv, hv, hz, b1, k⟩ := h
  obtain ⟨wa, rfl, hw⟩ := id hwv
  unfold Sn at b1
  have hk : ∀ o, read_ w z t = o → ∀ v H', Ex H H' → TV K H' v o → Q v H' := by
    rintro _ rfl
    exact k
  have near : ∀ rd, -15 ≤ before z rd ∧ before z rd ≤ 15 := fun rd => hz.offs _
  refine ⟨(tSeq (tAsg (tCall (sp_law_instants K) [] E0 (tCons (tVar 1) (tCons (tVar 2) tNil))) (gName 3)) (tSeq (tIfS (tAnd (tTest (tOp (rEqD K) (tVar 3) (tLst tNil))) (tTest (tOp rEq (tOp (rIxT K) (tVar 0) (tC (.int 2))) (tC (.str "shift"))))) (tRet (tCall (sp_law_at K) [] E0 (tCons (tVar 0) (tCons (tVar 1) (tCons (tOp (rI0 fun i j => .int (i - j)) (tVar 2) (tCall (sp_law_before K) [] E0 (tCons (tVar 1) (tCons (tVar 2) tNil)))) tNil))))) tNext) (tSeq (tAsg (tIf (tTest (tOp (rEqD K) (tVar 3) (tLst tNil))) (tOp rEq (tOp (rIxT K) (tVar 0) (tC (.int 2))) (tC (.str "refuse"))) (tAndV (tOp rEq (tOp (rIxT K) (tVar 0) (tC (.int 3))) (tC (.str "refuse"))) (tOp rEq (tCB (Evl.rLenS K) (tCons (tVar 3) tNil)) (tC (.int 2))))) (gName 4)) (tRet (tIf (tB (tVar 4)) (tC (.str "refused")) (tTup (tCons (tVar 2) (tCons (tC (.int 0)) tNil)))))))),
    PSs.nox (pss_cons (ps_set (i := 3) sc_law_read.nd rfl (Or.inl rfl) (pe_call (ok_law_instants T) (hr.mono (by decide)) (by rfl) T.f_law_instants.g T.f_law_instants.F.kp T.f_law_instants.b .nil pass0 (pa_cons (pv 1) (pa_cons (pv 2) pa_nil)))) (pss_cons (ps_if (PW.pt (pw_and (pt_cmpR (op_eqD hr.units) (pv 3) (pe_lst pa_nil) (nomark _)) (pw_and1 (pt_cmpR op_eq (pe_ix ix_tup (pv 0) pe_int (fun _ _ => rfl)) pe_str (nomark _))))) (pss_one (ps_ret (pe_call (ok_law_at T) (hr.mono (by decide)) (by rfl) T.f_law_at.g T.f_law_at.F.kp T.f_law_at.b .nil pass0 (pa_cons (pv 0) (pa_cons (pv 1) (pa_cons (pe_op op_sub (pv 2) (pe_call (ok_law_before T) (hr.mono (by decide)) (by rfl) T.f_law_before.g T.f_law_before.F.kp T.f_law_before.b .nil pass0 (pa_cons (pv 1) (pa_cons (pv 2) pa_nil)))) pa_nil)))))) pss_nil) (pss_cons (ps_set (i := 4) sc_law_read.nd rfl (Or.inl rfl) (pe_ifExp (pt_cmpR (op_eqD hr.units) (pv 3) (pe_lst pa_nil) (nomark _)) (pe_cmpR op_eq (pe_ix ix_tup (pv 0) pe_int (fun _ _ => rfl)) pe_str (nomark _)) (pe_and (pe_cmpR op_eq (pe_ix ix_tup (pv 0) pe_int (fun _ _ => rfl)) pe_str (nomark _)) (pe_one (pe_cmpR op_eq (pe_callB call_len_seq (by rfl) T.z_len (by decide +kernel) (pa_cons (pv 3) pa_nil)) pe_int (nomark _)))))) (pss_one (ps_ret (pe_ifExp (pt_val (pv 4)) pe_str (pe_tup (pa_cons (pv 2) (pa_cons pe_int pa_nil))))))))), ?_⟩
  walk_at "gg"
  refine ⟨_, _, _, rfl, hv, hz, by omega, by omega, fun p H1 n1 e1 h1 => ?_⟩
  walk_at "gg"
  refine g_newL (by simp) fun l2 H2 n2 e2 h2 => ?_
  refine g_eqNil (e2 _ _ h1) h2 ?_
  have e12 := e1.trans e2
  walk_at "gg"
  have fin : ∀ H3, Ex H H3 → read_ w z t = some (t, (0 : Int)) → NewT [V.int t, V.int 0] H3 Q := by
    intro H3 e3 ek
    refine g_newT (by simp) fun t4 H4 n4 e4 h4 => ?_
    exact hk _ ek _ H4 (e3.trans e4) ⟨t4, rfl, SqT.of h4⟩
  by_cases c : insts z t = []
  · rw [show (insts z t).isEmpty = true by rw [c] <;> rfl]
    walk_at "gg"
    rw [gap_shift]
    refine if_d (fun c2 => ?_) (fun c2 => ?_)
    · walk_at "gg"
      refine ⟨_, _, _, rfl, hv.tr (TrT.of e12), hz, by unfold Sm; omega, fun H3 e3 => ?_⟩
      walk_at "gg"
      have := near t
      refine ⟨_, _, _, _, _, rfl, hwv.tr (TrT.of (e12.trans e3)), hv.tr (TrT.of (e12.trans e3)), hz, by unfold Sm; omega, fun v H4 e4 => hk _ ?_ v H4 ((e12.trans e3).trans e4)⟩
      unfold read_
      rw [if_pos c, c2]
    · walk_at "gg"
      refine g_newL (by simp) fun l3 H3 n3 e3 h3 => ?_
      refine g_eqNil (e3 _ _ (e2 _ _ h1)) h3 ?_
      rw [show (insts z t).isEmpty = true by rw [c] <;> rfl]
      walk_at "gg"
      rw [gap_refuse]
      refine if_d (fun c3 => ?_) (fun c3 => ?_)
      · walk_at "gg"
        refine hk none ?_ _ _ (e12.trans e3) rfl
        unfold read_
        rw [if_pos c, c3]
      · walk_at "gg"
        refine fin _ (e12.trans e3) ?_
        unfold read_
        rw [if_pos c]
        cases hg : w.gap with
        | keep => rfl
        | refuse => exact (c3 hg).elim
        | shift => exact (c2 hg).elim
  · have ne : (insts z t).isEmpty = false := by cases q : insts z t with | nil => exact (c q).elim | cons _ _ => rfl
    rw [ne]
    walk_at "gg"
    refine g_newL (by simp) fun l3 H3 n3 e3 h3 => ?_
    refine g_eqNil (e3 _ _ (e2 _ _ h1)) h3 ?_
    rw [ne]
    walk_at "gg"
    rw [fold_refuse]
    refine if_d (fun c3 => ?_) (fun c3 => ?_)
    · walk_at "gg"
      refine g_lenL (SqL.of (e3 _ _ (e2 _ _ h1))) ?_
      rw [List.length_map]
      walk_at "gg"
      refine if_d (fun c4 => ?_) (fun c4 => ?_)
      · walk_at "gg"
        refine hk none ?_ _ _ (e12.trans e3) rfl
        unfold read_
        rw [if_neg c, if_pos ⟨c3, by omega⟩]
      · walk_at "gg"
        exact fin _ (e12.trans e3) (by unfold read_; rw [if_neg c, if_neg fun q => c4 (by have := q.2; omega)])
    · walk_at "gg"
      exact fin _ (e12.trans e3) (by unfold read_; rw [if_neg c, if_neg fun q => c3 q.1])
theorem ok_law_add (T : Txt w K mg) : FnOk P w K mg base CX0 5 T.f_law_add.f T.f_law_add.fd ["way", "zone", "time", "hours"] (sp_law_add K) := by
  refine T.f_law_add.F.ok sc_law_add (fun vs H Q E h => ?_) (fun cdv A outer s H vs Q E hr h => ?_)
  · obtain ⟨wv, zv, tv, w, z, t, d, rfl, _⟩ := h
    rfl
  obtain ⟨wv, zv, tv, w, z, o, d, rfl, hwv, hv, hz, ht, ho, b1, k⟩ := h
  obtain ⟨wa, rfl, hw⟩ := id hwv
  refine ⟨(tSeq (tIfS (tTest (tOp (rEqD K) (tVar 2) (tC (.str "refused")))) (tRet (tVar 2)) tNext) (tRet (tIf (tTest (tOp rEq (tOp (rIxT K) (tVar 0) (tC (.int 0))) (tC (.str "wall")))) (tCall (sp_law_read K) [] E0 (tCons (tVar 0) (tCons (tVar 1) (tCons (tOp (rI0 fun i j => .int (i + j)) (tOp (rIxT K) (tVar 2) (tC (.int 0))) (tVar 3)) tNil)))) (tCall (sp_law_at K) [] E0 (tCons (tVar 0) (tCons (tVar 1) (tCons (tOp (rI0 fun i j => .int (i + j)) (tCall (sp_law_instant K) [] E0 (tCons (tVar 0) (tCons (tVar 1) (tCons (tVar 2) tNil)))) (tVar 3)) tNil))))))),
    PSs.nox (pss_cons (ps_if (pt_cmpR (op_eqD hr.units) (pv 2) pe_str (nomark _)) (pss_one (ps_ret (pv 2))) pss_nil) (pss_one (ps_ret (pe_ifExp (pt_cmpR op_eq (pe_ix ix_tup (pv 0) pe_int (fun _ _ => rfl)) pe_str (nomark _)) (pe_call (ok_law_read T) (hr.mono (by decide)) (by rfl) T.f_law_read.g T.f_law_read.F.kp T.f_law_read.b .nil pass0 (pa_cons (pv 0) (pa_cons (pv 1) (pa_cons (pe_op op_add (pe_ix ix_tup (pv 2) pe_int (fun _ _ => rfl)) (pv 3)) pa_nil)))) (pe_call (ok_law_at T) (hr.mono (by decide)) (by rfl) T.f_law_at.g T.f_law_at.F.kp T.f_law_at.b .nil pass0 (pa_cons (pv 0) (pa_cons (pv 1) (pa_cons (pe_op op_add (pe_call (ok_law_instant T) (hr.mono (by decide)) (by rfl) T.f_law_instant.g T.f_law_instant.F.kp T.f_law_instant.b .nil pass0 (pa_cons (pv 0) (pa_cons (pv 1) (pa_cons (pv 2) pa_nil)))) (pv 3)) pa_nil)))))))), ?_⟩
  walk_at "gg"
  refine g_eqT ht (b := none) rfl ?_
  walk_at "gg"
  refine if_d (fun c => ?_) (fun c => ?_)
  · walk_at "gg"
    subst c
    exact k _ _ (Evl.Ex.refl _) ht
  · walk_at "gg"
    cases o with
    | none => exact (c rfl).elim
    | some t =>
      obtain ⟨o1, o2⟩ := ho t rfl
      obtain ⟨b3, b4⟩ := b1 t rfl
      unfold Sn at b3 b4
      unfold Sm at o2
      obtain ⟨ta, rfl, hta⟩ := id ht
      have nr := inst_near hz o1
      unfold addT at k
      simp only at k
      rw [sum_wall]
      cases hs : w.ws with
      | true =>
        rw [hs, if_pos rfl] at k
        walk_at "gg"
        exact ⟨_, _, _, _, _, rfl, hwv, hv, hz, by unfold Sn; omega, k⟩
      | false =>
        rw [hs, if_neg (by decide)] at k
        walk_at "gg"
        refine ⟨_, _, _, _, _, t, rfl, hwv, hv, hz, ht, o1, o2, fun H1 e1 => ?_⟩
        walk_at "gg"
        exact ⟨_, _, _, _, _, rfl, hwv.tr (TrT.of e1), hv.tr (TrT.of e1), hz, by unfold Sm; omega, fun v H2 e2 => k v H2 (e1.trans e2)⟩
theorem ok_law_hours (T : Txt w K mg) : FnOk P w K mg base CX0 3 T.f_law_hours.f T.f_law_hours.fd ["row"] (sp_law_hours K) := by
  refine T.f_law_hours.F.ok sc_law_hours (fun vs H Q E h => ?_) (fun cdv A outer s H vs Q E hr h => ?_)
  · obtain ⟨ρ, rfl, _⟩ := h
    rfl
  obtain ⟨ρ, rfl, hR, k⟩ := h
  refine ⟨(tRet (tCall (sp_law_pick K) [] E0 (tCons (tVar 0) (tCons (tLst (tCons (tC (.int 1)) (tCons (tC (.int 2)) (tCons (tC (.int 3)) (tCons (tOp (rI0 fun i j => .int (i - j)) (tC (.int 0)) (tC (.int 1))) (tCons (tOp (rI0 fun i j => .int (i - j)) (tC (.int 0)) (tC (.int 2))) (tCons (tOp (rI0 fun i j => .int (i - j)) (tC (.int 0)) (tC (.int 3))) (tCons (tC (.int 24)) (tCons (tOp (rI0 fun i j => .int (i - j)) (tC (.int 0)) (tC (.int 24))) (tCons (tC (.int 0)) (tCons (tOp (rI0 fun i j => .int (i - j)) (tCall (sp_law_taken K) [] E0 (tCons (tVar 0) (tCons (tC (.int 31)) tNil))) (tC (.int 15))) (tCons (tOp (rI0 fun i j => .int (i - j)) (tCall (sp_law_taken K) [] E0 (tCons (tVar 0) (tCons (tC (.int 801)) tNil))) (tC (.int 400))) tNil)))))))))))) tNil)))),
    PSs.nox (pss_one (ps_ret (pe_call (ok_law_pick T) (hr.mono (by decide)) (by rfl) T.f_law_pick.g T.f_law_pick.F.kp T.f_law_pick.b .nil pass0 (pa_cons (pv 0) (pa_cons (pe_lst (pa_cons pe_int (pa_cons pe_int (pa_cons pe_int (pa_cons (pe_op op_sub pe_int pe_int) (pa_cons (pe_op op_sub pe_int pe_int) (pa_cons (pe_op op_sub pe_int pe_int) (pa_cons pe_int (pa_cons (pe_op op_sub pe_int pe_int) (pa_cons pe_int (pa_cons (pe_op op_sub (pe_call (ok_law_taken T) (hr.mono (by decide)) (by rfl) T.f_law_taken.g T.f_law_taken.F.kp T.f_law_taken.b .nil pass0 (pa_cons (pv 0) (pa_cons pe_int pa_nil))) pe_int) (pa_cons (pe_op op_sub (pe_call (ok_law_taken T) (hr.mono (by decide)) (by rfl) T.f_law_taken.g T.f_law_taken.F.kp T.f_law_taken.b .nil pass0 (pa_cons (pv 0) (pa_cons pe_int pa_nil))) pe_int) pa_nil)))))))))))) pa_nil))))), ?_⟩
  walk_at "gg"
  refine ⟨ρ, _, rfl, hR, by omega, by omega, fun v1 H1 p1 q1 e1 R1 => ?_⟩
  walk_at "gg"
  refine ⟨ρ, _, rfl, R1, by omega, by omega, fun v2 H2 p2 q2 e2 R2 => ?_⟩
  walk_at "gg"
  refine g_newL (by simp) fun l3 H3 n3 e3 h3 => ?_
  walk_at "gg"
  obtain ⟨_, qq⟩ := R2.lst
  refine ⟨ρ, _, _, rfl, R2.ex e3, h3, (ne_of_none qq n3).symm, by simp, by simp, fun x H4 m4 e4 R4 => ?_⟩
  obtain ⟨gp, rfl, g0, g1⟩ : ∃ gp : Int, x = .int gp ∧ -400 ≤ gp ∧ gp ≤ 400 := by
    simp only [List.mem_cons, List.not_mem_nil, or_false] at m4
    rcases m4 with rfl | rfl | rfl | rfl | rfl | rfl | rfl | rfl | rfl | rfl | rfl <;> exact ⟨_, rfl, by omega, by omega⟩
  exact k gp H4 g0 g1 (((e1.trans e2).trans (Fr.of e3)).trans e4) R4
end
local macro_rules | `(tactic| walk_at "m") => `(tactic| first
  | with_reducible refine g_m1 ?_
  | with_reducible refine g_isS ?_
  | with_reducible refine g_lcStr ?_
  | with_reducible refine g_join ?_
  | with_reducible refine g_js ?_
  | with_reducible refine g_jsN ?_
  | with_reducible refine g_fmt ?_
  | with_reducible refine g_callLam ?_
  | with_reducible refine g_revT ?_)
local macro_rules | `(tactic| walk_at "m") => `(tactic| first
  | with_reducible refine g_sfld ?_
  | with_reducible refine g_fld ?_
  | with_reducible refine g_meth ?_
  | with_reducible refine g_make ?_
  | with_reducible refine g_prop ?_
  | with_reducible refine g_del ?_)

theorem g_slT {K : PySem.W.Frag} {a : Addr} {xs ys : List V} {k : Nat} {H : Hp} {Q : VK} (q : SqT K H a xs) (k1 : 0 < k) (k2 : k ≤ xs.length) (e : xs.drop k = ys) (h : ∀ p H', H p = none → Ex H H' → H' p = some (.tup ys) → Q (.ref p) H') :
    rSlT K (.ref a) (some (k : Int)) none H Q := by
  have e1 : HT.sIx xs.length 0 (some (k : Int)) = k := by
    rw [HT.sIx_nat]
    omega
  refine ⟨a, xs, rfl, q, ?_, fun p hp => ?_⟩
  · rw [e1]
    omega
  · have c : cutV xs (some (k : Int)) none = ys := by
      unfold cutV
      rw [e1, HT.sIx_none, ← e, List.take_of_length_le (by rw [List.length_drop]; omega)]
    rw [c]
    exact h p _ hp (Evl.Ex.new hp) upd_same
theorem g_slice {r : V → Option Int → Option Int → Hp → VK → Prop} {te : TE} {k : Int} {σ : St} {H : Hp} {Q : VK} (h : te σ H fun x H1 => r x (some k) none H1 Q) : tSl r te (tPart (tC (.int k))) tNoPart σ H Q := by
  have m : (fun x H1 => r x (some k) none H1 Q) = fun x H1 => tPart (tC (.int k)) σ H1 fun l H2 => tNoPart σ H2 fun u H3 => r x l u H3 Q := by
    funext x H1
    refine propext ⟨fun q => ⟨k, rfl, q⟩, fun q => ?_⟩
    obtain ⟨i, e, q⟩ := q
    cases e
    exact q
  rw [m] at h
  exact h
theorem g_ixD {K : PySem.W.Frag} {w : World} {a : Addr} {x : Str} {v : V} {H : Hp} {Q : VK} (d : KDct K w a x v) (h : Q v H) : rIxD K w (.ref a) (.str x) H Q := ⟨a, x, v, rfl, rfl, d, h⟩
/-! ### promises -/
def sp_is_library (K : PySem.W.Frag) : Sp := fun vs H Q _ => ∃ (wv : V) (w : Way), vs = [wv] ∧ WayV K H wv w ∧ Q (.bl true) H
def sp_check_library (K : PySem.W.Frag) : Sp := fun vs H Q _ => ∃ (wv : V) (w : Way), vs = [wv] ∧ WayV K H wv w ∧ Q .non H
def sp_passes_at (K : PySem.W.Frag) : Sp := fun vs H Q _ => ∃ (wv zv : V) (w : Way) (z : Zone) (t : Int), vs = [wv, zv, .int t] ∧ WayV K H wv w ∧ ZV K H zv z ∧ OkZ z ∧ (insts z t).length ≤ 2 ∧
  ∀ p H', Ex H H' → SqT K H' p ((times w z t).map fun x => .int x.2) → Q (.ref p) H'
section
variable {P : Program} {w : World} {K : PySem.W.Frag} {mg : Str → Option Value} {base : Heap}
theorem ok_is_library (T : Txt w K mg) : FnOk P w K mg base CX0 2 T.f_is_library.f T.f_is_library.fd ["value"] (sp_is_library K) := by
  refine T.f_is_library.F.ok sc_is_library (fun vs H Q E h => ?_) (fun cdv A outer s H vs Q E hr h => ?_)
  · obtain ⟨wv, w, rfl, _⟩ := h
    rfl
  obtain ⟨wv, w, rfl, ⟨a, rfl, hw⟩, k⟩ := h
  refine ⟨(tSeq (tIfS (tNot (tB (tCall (sp_is_tuple_of K) [] E0 (tCons (tC (.int 4)) (tCons (tVar 0) tNil))))) (tRet (tC (.bl false))) tNext) (tSeq (tAsg (tVar 0) (gTup K 4 (gCons (gName 1) (gCons (gName 2) (gCons (gName 3) (gCons (gName 4) gNil)))))) (tRet (tAndV (tOp (rIn K false) (tVar 1) (tC (.ref T.a_SUMS))) (tAndV (tOp (rIn K false) (tVar 2) (tC (.ref T.a_ORDERS))) (tAndV (tOp (rIn K false) (tVar 3) (tC (.ref T.a_GAPS))) (tOp (rIn K false) (tVar 4) (tC (.ref T.a_FOLDS))))))))),
    PSs.nox (pss_cons (ps_if (pt_not (pt_val (pe_call (ok_is_tuple_of T) (hr.mono (by decide)) (by rfl) T.f_is_tuple_of.g T.f_is_tuple_of.F.kp T.f_is_tuple_of.b .nil pass0 (pa_cons pe_int (pa_cons (pv 0) pa_nil))))) (pss_one (ps_ret pe_bl)) pss_nil) (pss_cons (ps_asg (pv 0) (pg_tup rfl (pgs_cons (pg_name (i := 1) sc_is_library.nd rfl (Or.inl rfl)) (pgs_cons (pg_name (i := 2) sc_is_library.nd rfl (Or.inl rfl)) (pgs_cons (pg_name (i := 3) sc_is_library.nd rfl (Or.inl rfl)) (pgs_cons (pg_name (i := 4) sc_is_library.nd rfl (Or.inl rfl)) pgs_nil)))))) (pss_one (ps_ret (pe_and (pe_cmpR op_in_seq (pv 1) (pe_glob (by rfl) T.c_SUMS rfl) (by rfl)) (pe_and (pe_cmpR op_in_seq (pv 2) (pe_glob (by rfl) T.c_ORDERS rfl) (by rfl)) (pe_and (pe_cmpR op_in_seq (pv 3) (pe_glob (by rfl) T.c_GAPS rfl) (by rfl)) (pe_one (pe_cmpR op_in_seq (pv 4) (pe_glob (by rfl) T.c_FOLDS rfl) (by rfl)))))))))), ?_⟩
  walk_at "gg"
  refine ⟨_, _, _, rfl, hw, ?_⟩
  walk_at "gg"
  refine g_inTu (T.q_SUMS _) rfl rfl ?_
  walk_at "gg"
  refine if_t (by cases w.ws <;> decide +kernel) ?_
  walk_at "gg"
  refine g_inTu (T.q_ORDERS _) rfl rfl ?_
  walk_at "gg"
  refine if_t (by cases w.wo <;> decide +kernel) ?_
  walk_at "gg"
  refine g_inTu (T.q_GAPS _) rfl rfl ?_
  walk_at "gg"
  refine if_t (by cases w.gap <;> decide +kernel) ?_
  walk_at "gg"
  refine g_inTu (T.q_FOLDS _) rfl rfl ?_
  rw [show inV (.str (foldS w.fold)) [.str "both", .str "first", .str "refuse", .str "second"] = true by cases w.fold <;> decide +kernel]
  exact k
theorem ok_check_library (T : Txt w K mg) : FnOk P w K mg base CX0 3 T.f_check_library.f T.f_check_library.fd ["value"] (sp_check_library K) := by
  refine T.f_check_library.F.ok sc_check_library (fun vs H Q E h => ?_) (fun cdv A outer s H vs Q E hr h => ?_)
  · obtain ⟨wv, w, rfl, _⟩ := h
    rfl
  obtain ⟨wv, w, rfl, hw, k⟩ := h
  refine ⟨(tIfS (tNot (tB (tCall (sp_is_library K) [] E0 (tCons (tVar 0) tNil)))) tNever tNext),
    PSs.nox (pss_one (ps_if (pt_not (pt_val (pe_call (ok_is_library T) (hr.mono (by decide)) (by rfl) T.f_is_library.g T.f_is_library.F.kp T.f_is_library.b .nil pass0 (pa_cons (pv 0) pa_nil)))) (pss_one ps_never) pss_nil)), ?_⟩
  walk_at "gg"
  refine ⟨_, w, rfl, hw, ?_⟩
  walk_at "gg"
  exact k
end
/-! ### times and their instants -/
section
variable {w : Way} {z : Zone} (h : OkZ z)
include h
/-- a reading that does not grow: one falling change between -/
theorem OkZ.cross {T U : Int} (lt : U < T) (le : T + off z T ≤ U + off z U) :
    ∃ s, U < s ∧ s ≤ T ∧ T ≤ U + 3 ∧ off z T < off z U ∧ off z U ≤ off z T + 3 ∧ (∀ x, s - 12 ≤ x → x < s → off z x = off z U) ∧ (∀ x, s ≤ x → x ≤ s + 11 → off z x = off z T) := by
  have b := h.back lt le
  obtain ⟨s, s1, s2, s3, s4⟩ := h.near (t := U) (u := T) (by omega) (by omega)
  have c : s ≤ T := by
    by_cases c : s ≤ T
    · exact c
    · have := s2 T (by omega) (by omega)
      omega
  have f1 := s2 (s - 1) (by omega) (by omega)
  have f2 := s3 s (by omega) c
  have d := s4 c
  obtain ⟨c1, c2, c3, c4⟩ := h.chart (s := s) (by omega)
  exact ⟨s, s1, c, b, by omega, by omega, fun x x1 x2 => by rw [c1 x x1 x2, f1], fun x x1 x2 => by rw [c2 x x1 x2, f2]⟩
theorem tm_cases {t : Tm} (q : IsTm w z t) :
    (∃ T, insts z t.1 = [T] ∧ inst w z t = T ∧ t.2 = 0) ∨
    (∃ A B, insts z t.1 = [A, B] ∧ w.fold ≠ .refuse ∧ ((t.2 = 0 ∧ w.fold ≠ .second ∧ inst w z t = A) ∨ (t.2 = 0 ∧ w.fold = .second ∧ inst w z t = B) ∨ (t.2 = 1 ∧ w.fold = .both ∧ inst w z t = B))) ∨
    (insts z t.1 = [] ∧ w.gap = .keep ∧ t.2 = 0 ∧ inst w z t = t.1 - before z t.1) := by
  have l2 := h.le2 t.1
  have q0 := q
  unfold IsTm times at q
  match e : insts z t.1 with
  | [] =>
    rw [e] at q
    simp at q
    refine .inr (.inr ⟨rfl, q.1, by rw [q.2], ?_⟩)
    unfold inst
    rw [if_pos e]
  | [T] =>
    have p : t.2 = 0 := by
      rcases q0.pass with p | p
      · exact p
      · rw [e] at p
        simp at p
    refine .inl ⟨T, rfl, ?_, p⟩
    unfold inst
    rw [e, if_neg (by simp), p]
    split <;> rfl
  | [A, B] =>
    refine .inr (.inl ⟨A, B, rfl, ?_, ?_⟩)
    · intro c
      rw [e, c] at q
      simp at q
    · unfold inst
      rw [e, if_neg (by simp)]
      by_cases c : w.fold = .second
      · rw [if_pos c]
        rcases q0.pass with p | p
        · exact .inr (.inl ⟨p, c, rfl⟩)
        · rw [p.2.1] at c
          cases c
      · rw [if_neg c]
        rcases q0.pass with p | p
        · exact .inl ⟨p, c, by rw [p] <;> rfl⟩
        · exact .inr (.inr ⟨p.1, p.2.1, by rw [p.1] <;> rfl⟩)
  | a :: b :: c :: l => rw [e] at l2; simp at l2
/-- outside of gaps the instant has the reading -/
theorem inst_rd {t : Tm} (q : IsTm w z t) (c : insts z t.1 ≠ []) : inst w z t + off z (inst w z t) = t.1 := by
  rcases tm_cases h q with ⟨T, e, i, _⟩ | ⟨A, B, e, _, k⟩ | ⟨e, _⟩
  · rw [i]
    exact (insts_mem h).1 (by rw [e]; simp)
  · have p := h.pair e
    rcases k with ⟨_, _, i⟩ | ⟨_, _, i⟩ | ⟨_, _, i⟩ <;> rw [i]
    · exact p.2.1
    · exact p.2.2.1
    · exact p.2.2.1
  · exact (c e).elim
theorem at_one {T : Int} (e : insts z (T + off z T) = [T]) : at_ w z T = some (T + off z T, 0) := by
  unfold at_
  rw [e]
  simp
/-- F1: from the instant back to the time -/
theorem at_inst {t : Tm} (q : IsTm w z t) (c : insts z t.1 ≠ []) : at_ w z (inst w z t) = some t := by
  have r := inst_rd h q c
  unfold at_
  rw [r]
  obtain ⟨t1, t2⟩ := t
  rcases tm_cases h q with ⟨T, e, i, p⟩ | ⟨A, B, e, nr, k⟩ | ⟨e, _⟩
  · simp only at e p
    rw [e, i, p]
    simp
  · simp only at e k
    have pr := h.pair e
    rw [e, if_neg (fun q => nr q.2)]
    rcases k with ⟨p, f, i⟩ | ⟨p, f, i⟩ | ⟨p, f, i⟩
    · rw [i, p]
      simp
    · rw [i, p, f]
      simp
    · rw [i, p, f]
      have : ¬ B = A := by omega
      simp [this]
  · exact (c e).elim
/-- F2: from an instant to the time and back -/
theorem inst_at {T : Int} (c : w.fold = .both ∨ (insts z (T + off z T)).length ≠ 2) : ∃ t, at_ w z T = some t ∧ inst w z t = T ∧ t.1 = T + off z T ∧ IsTm w z t ∧ insts z t.1 ≠ [] := by
  have s := insts_self h T
  have l2 := h.le2 (T + off z T)
  have nr : ¬ ((insts z (T + off z T)).length = 2 ∧ w.fold = .refuse) := fun q => by
    rcases c with c | c
    · rw [q.2] at c
      cases c
    · exact c q.1
  have e : at_ w z T = some (T + off z T, if w.fold = .both ∧ T ≠ (insts z (T + off z T)).head?.getD 0 then 1 else 0) := by
    unfold at_
    rw [if_neg nr]
  generalize hp : (if w.fold = .both ∧ T ≠ (insts z (T + off z T)).head?.getD 0 then (1 : Int) else 0) = p at e
  have v := at_valid h e
  refine ⟨_, e, ?_, rfl, v.1, fun q => by rw [show insts z (T + off z T) = [] from q] at s; cases s⟩
  rcases tm_cases h v.1 with ⟨X, ex, i, _⟩ | ⟨A, B, ex, nr2, k⟩ | ⟨ex, _⟩
  · simp only at ex
    rw [ex] at s
    rw [i]
    exact (List.mem_singleton.mp s).symm
  · simp only at ex k
    rw [ex] at s c hp
    have cb : w.fold = .both := by
      rcases c with c | c
      · exact c
      · simp at c
    have pr := h.pair ex
    simp only [List.mem_cons, List.not_mem_nil, or_false] at s
    by_cases d : T = A
    · rw [if_neg (fun q => q.2 (show T = [A, B].head?.getD 0 from d))] at hp
      rcases k with ⟨_, _, i⟩ | ⟨_, f, _⟩ | ⟨f, _⟩
      · rw [i, d]
      · rw [cb] at f
        cases f
      · omega
    · rw [if_pos ⟨cb, (show T ≠ [A, B].head?.getD 0 from d)⟩] at hp
      rcases k with ⟨f, _⟩ | ⟨f, _⟩ | ⟨_, _, i⟩
      · omega
      · omega
      · rw [i]
        rcases s with s | s
        · exact (d s).elim
        · exact s.symm
  · simp only at ex
    rw [ex] at s
    cases s
/-- readings and instants rise alike, outside of gaps, where a fold has one pass -/
theorem mono_lt {t u : Tm} (qt : IsTm w z t) (qu : IsTm w z u) (ct : insts z t.1 ≠ []) (cu : insts z u.1 ≠ []) (cf : w.fold ≠ .both ∨ ((insts z t.1).length ≠ 2)) (lt : t.1 < u.1) : inst w z t < inst w z u := by
  have rt := inst_rd h qt ct
  have ru := inst_rd h qu cu
  by_cases c : inst w z t < inst w z u
  · exact c
  · have ne : inst w z u < inst w z t := by
      rcases Int.lt_or_eq_of_le (Int.not_lt.mp c) with d | d
      · exact d
      · rw [d] at ru
        omega
    obtain ⟨s, s1, s2, s3, s4, s5, s6, s7⟩ := h.cross ne (by omega)
    -- the other instants of both readings
    have x1 := s6 (t.1 - off z (inst w z u)) (by omega) (by omega)
    have x2 : t.1 - off z (inst w z u) ∈ insts z t.1 := (insts_mem h).2 (by omega)
    have y1 := s7 (u.1 - off z (inst w z t)) (by omega) (by omega)
    have y2 : u.1 - off z (inst w z t) ∈ insts z u.1 := (insts_mem h).2 (by omega)
    rcases tm_cases h qt with ⟨T, e, i, p⟩ | ⟨A, B, e, nr, k⟩ | ⟨e, _⟩
    · rw [e] at x2
      have := List.mem_singleton.mp x2
      omega
    · have fb : w.fold ≠ .both := by
        rcases cf with cf | cf
        · exact cf
        · rw [e] at cf
          simp at cf
      have pr := h.pair e
      rw [e] at x2
      simp only [List.mem_cons, List.not_mem_nil, or_false] at x2
      have sec : w.fold = .second := by
        rcases k with ⟨_, _, i⟩ | ⟨_, f, _⟩ | ⟨_, f, _⟩
        · omega
        · exact f
        · exact (fb f).elim
      rcases tm_cases h qu with ⟨T, e', i', p'⟩ | ⟨A', B', e', nr', k'⟩ | ⟨e', _⟩
      · rw [e'] at y2
        have := List.mem_singleton.mp y2
        omega
      · have pr' := h.pair e'
        rw [e'] at y2
        simp only [List.mem_cons, List.not_mem_nil, or_false] at y2
        rcases k' with ⟨_, f, _⟩ | ⟨_, _, i'⟩ | ⟨_, f, _⟩
        · exact (f sec).elim
        · omega
        · exact (fb f).elim
      · exact (cu e').elim
    · exact (ct e).elim
/-- one reading, one time -/
theorem tm_eq {t u : Tm} (qt : IsTm w z t) (qu : IsTm w z u) (cf : w.fold ≠ .both ∨ (insts z t.1).length ≠ 2) (e : t.1 = u.1) : t = u := by
  have p : ∀ x : Tm, IsTm w z x → x.1 = t.1 → x.2 = 0 := fun x qx ex => by
    rcases qx.pass with p | p
    · exact p
    · rcases cf with cf | cf
      · exact (cf p.2.1).elim
      · rw [ex] at p
        exact (cf p.2.2).elim
  exact Prod.ext e (by rw [p t qt rfl, p u qu e.symm])
/-- in a gap -/
theorem gap_at {rd s a b : Int} (G : InGap z rd s a b) : insts z (rd - b + off z (rd - b)) = [rd - b] ∧ off z (rd - b) = a ∧ s ≤ rd - b ∧ rd - b ≤ s + 2 := by
  have g1 := G.lt
  have g2 := G.le
  have g3 := G.lo
  have g4 := G.hi
  have o := G.aft (rd - b) (by omega) (by omega)
  refine ⟨h.one rfl fun x x1 x2 x3 x4 => ?_, o, by omega, by omega⟩
  by_cases c : x < s
  · have := G.bef x (by omega) c
    omega
  · have := G.aft x (by omega) (by omega)
    omega
/-- what comes later than a gap's change reads later than the gap -/
theorem gap_later {rd s a b T : Int} (G : InGap z rd s a b) (hT : s ≤ T) : rd < T + off z T := by
  have g4 := G.hi
  have o := G.aft s (by omega) (by omega)
  by_cases c : rd < T + off z T
  · exact c
  · have ne : s < T := by
      rcases Int.lt_or_eq_of_le hT with d | d
      · exact d
      · rw [← d] at c
        omega
    have := h.back ne (by omega)
    have := G.aft T (by omega) (by omega)
    omega
theorem gap_earlier {rd s a b T : Int} (G : InGap z rd s a b) (hT : T + off z T < rd) : T < s := by
  by_cases c : T < s
  · exact c
  · have := gap_later h G (T := T) (by omega)
    omega
end
/-! ### zones without gaps, without folds -/
def NoGap (z : Zone) : Prop := ∀ rd, insts z rd ≠ []
def NoFold (z : Zone) : Prop := ∀ rd, (insts z rd).length ≠ 2
theorem kind_up : ∀ (cs : List (Int × Int)) (b : Int) (s r : Bool), (kindGo b s r cs).2 = false → r = false ∧ (∀ u, b ≤ offGo u b cs) ∧ ∀ t u, t ≤ u → offGo t b cs ≤ offGo u b cs
  | [], b, s, r, e => ⟨e, fun u => Int.le_refl _, fun _ _ _ => Int.le_refl _⟩
  | p :: l, b, s, r, e => by
    rw [kindGo_cons] at e
    split at e
    next c =>
      obtain ⟨i1, i2, i3⟩ := kind_up l p.2 true r e
      refine ⟨i1, fun u => ?_, fun t u tu => ?_⟩
      · rw [offGo_cons]
        have := i2 u
        split <;> omega
      · rw [offGo_cons, offGo_cons]
        have := i2 u
        have := i3 t u tu
        split <;> split <;> omega
    next c =>
      have := (kind_up l p.2 s true e).1
      cases this
theorem kind_down : ∀ (cs : List (Int × Int)) (b : Int) (s r : Bool), (kindGo b s r cs).1 = false → s = false ∧ (∀ u, offGo u b cs ≤ b) ∧ ∀ t u, t ≤ u → offGo u b cs ≤ offGo t b cs
  | [], b, s, r, e => ⟨e, fun u => Int.le_refl _, fun _ _ _ => Int.le_refl _⟩
  | p :: l, b, s, r, e => by
    rw [kindGo_cons] at e
    split at e
    next c =>
      have := (kind_down l p.2 true r e).1
      cases this
    next c =>
      obtain ⟨i1, i2, i3⟩ := kind_down l p.2 s true e
      refine ⟨i1, fun u => ?_, fun t u tu => ?_⟩
      · rw [offGo_cons]
        have := i2 u
        split <;> omega
      · rw [offGo_cons, offGo_cons]
        have := i2 u
        have := i3 t u tu
        split <;> split <;> omega
theorem kind_flags {z : Zone} {k : Str} (e : kindOf z = k) : (k = "fixed" ∨ k = "skips" → (kindGo z.1 false false z.2).2 = false) ∧ (k = "fixed" ∨ k = "repeats" → (kindGo z.1 false false z.2).1 = false) := by
  unfold kindOf at e
  generalize kindGo z.1 false false z.2 = f at e
  have n1 : ("both" : Str) ≠ "fixed" := by decide +kernel
  have n2 : ("both" : Str) ≠ "skips" := by decide +kernel
  have n3 : ("both" : Str) ≠ "repeats" := by decide +kernel
  have n4 : ("skips" : Str) ≠ "fixed" := by decide +kernel
  have n5 : ("skips" : Str) ≠ "repeats" := by decide +kernel
  have n6 : ("repeats" : Str) ≠ "fixed" := by decide +kernel
  have n7 : ("repeats" : Str) ≠ "skips" := by decide +kernel
  match f with
  | (true, true) =>
    subst e
    exact ⟨fun q => q.elim (fun q => (n1 q).elim) (fun q => (n2 q).elim), fun q => q.elim (fun q => (n1 q).elim) (fun q => (n3 q).elim)⟩
  | (true, false) =>
    subst e
    exact ⟨fun _ => rfl, fun q => q.elim (fun q => (n4 q).elim) (fun q => (n5 q).elim)⟩
  | (false, true) =>
    subst e
    exact ⟨fun q => q.elim (fun q => (n6 q).elim) (fun q => (n7 q).elim), fun _ => rfl⟩
  | (false, false) => exact ⟨fun _ => rfl, fun _ => rfl⟩
theorem noFold_of {z : Zone} (h : OkZ z) {k : Str} (e : kindOf z = k) (c : k = "fixed" ∨ k = "skips") : NoFold z := by
  have up := (kind_up z.2 z.1 false false ((kind_flags e).1 c)).2.2
  intro rd l
  match q : insts z rd with
  | [] => rw [q] at l; cases l
  | [a] => rw [q] at l; cases l
  | [a, b] =>
    have p := h.pair q
    have := up a b (by omega)
    unfold off at p
    omega
  | a :: b :: c :: r => rw [q] at l; simp at l
theorem noGap_of {z : Zone} (h : OkZ z) {k : Str} (e : kindOf z = k) (c : k = "fixed" ∨ k = "repeats") : NoGap z := by
  have dn := (kind_down z.2 z.1 false false ((kind_flags e).2 c)).2.2
  intro rd l
  obtain ⟨s, a, b, G⟩ := h.gap l
  have f1 := G.bef (s - 1) (by omega) (by omega)
  have f2 := G.aft s (by omega) (by omega)
  have := G.lt
  have := dn (s - 1) s (by omega)
  unfold off at f1 f2
  omega
/-- no gaps, no folds: one offset -/
theorem const_of {z : Zone} (h : OkZ z) (ng : NoGap z) (nf : NoFold z) (T U : Int) : off z T = off z U := by
  have stp : ∀ s, off z s = off z (s - 1) := by
    intro s
    by_cases c : off z s = off z (s - 1)
    · exact c
    · obtain ⟨c1, c2, c3, c4⟩ := h.chart c
      by_cases d : off z s < off z (s - 1)
      · -- a fold: the reading s + off s
        have m1 : s ∈ insts z (s + off z s) := insts_self h s
        have x := c1 (s + off z s - off z (s - 1)) (by omega) (by omega)
        have m2 : s + off z s - off z (s - 1) ∈ insts z (s + off z s) := (insts_mem h).2 (by omega)
        have l := nf (s + off z s)
        have l2 := h.le2 (s + off z s)
        match q : insts z (s + off z s) with
        | [] => rw [q] at m1; cases m1
        | [a] =>
          rw [q] at m1 m2
          have := List.mem_singleton.mp m1
          have := List.mem_singleton.mp m2
          omega
        | [a, b] => rw [q] at l; exact (l rfl).elim
        | a :: b :: c :: r => rw [q] at l2; simp at l2
      · -- a gap: the reading s + off (s - 1)
        refine (ng (s + off z (s - 1)) ?_).elim
        cases q : insts z (s + off z (s - 1)) with
        | nil => rfl
        | cons T l =>
          have m := (insts_mem h (t := s + off z (s - 1)) (k := T)).1 (by rw [q]; simp)
          by_cases d1 : T < s
          · by_cases d2 : T = s - 1
            · rw [d2] at m
              omega
            · have := h.back (t := T) (u := s - 1) (by omega) (by omega)
              have := c1 T (by omega) d1
              omega
          · by_cases d2 : T = s
            · rw [d2] at m
              omega
            · have := h.back (t := s) (u := T) (by omega) (by omega)
              have := c2 T (by omega) (by omega)
              omega
  have go : ∀ (n : Nat) (T : Int), off z (T + n) = off z T := by
    intro n
    induction n with
    | zero =>
      intro T
      rw [show T + ((0 : Nat) : Int) = T by omega]
    | succ n ih =>
      intro T
      rw [stp, show T + ((n + 1 : Nat) : Int) - 1 = T + (n : Int) by omega]
      exact ih T
  rcases Int.le_total T U with q | q
  · have := go (U - T).toNat T
    rw [show T + ((U - T).toNat : Int) = U by omega] at this
    exact this.symm
  · have := go (T - U).toNat U
    rw [show U + ((T - U).toNat : Int) = T by omega] at this
    exact this
local macro_rules | `(tactic| walk_at "m") => `(tactic| first
  | with_reducible refine g_m1 ?_
  | with_reducible refine g_isS ?_
  | with_reducible refine g_lcStr ?_
  | with_reducible refine g_join ?_
  | with_reducible refine g_js ?_
  | with_reducible refine g_jsN ?_
  | with_reducible refine g_fmt ?_
  | with_reducible refine g_callLam ?_
  | with_reducible refine g_revT ?_)
local macro_rules | `(tactic| walk_at "m") => `(tactic| first
  | with_reducible refine g_sfld ?_
  | with_reducible refine g_fld ?_
  | with_reducible refine g_meth ?_
  | with_reducible refine g_make ?_
  | with_reducible refine g_prop ?_
  | with_reducible refine g_del ?_)

/-! ### the walk over the changes to a gap -/
def gapGo (rd : Int) : Int → List (Int × Int) → Option Int
  | _, [] => none
  | b, p :: r => if p.1 + b ≤ rd ∧ rd < p.1 + p.2 then some b else gapGo rd p.2 r
theorem gapGo_some {rd x : Int} : ∀ {b e : Int} {cs : List (Int × Int)}, okGo b e cs = true → gapGo rd b cs = some x →
    ∃ q, e ≤ q ∧ q + x ≤ rd ∧ rd < q + offGo q b cs ∧ offGo (q - 1) b cs = x
  | b, e, [], _, h => by cases h
  | b, e, p :: r, o, h => by
    have a := okGo_after o p (by simp)
    rw [okGo_cons, Bool.and_eq_true] at o
    unfold gapGo at h
    split at h
    · next c =>
      cases h
      refine ⟨p.1, a, c.1, ?_, ?_⟩
      · rw [offGo_cons, if_neg (by omega), offGo_before o.2 (by omega)]
        exact c.2
      · rw [offGo_cons, if_pos (by omega)]
    · obtain ⟨q, q1, q2, q3, q4⟩ := gapGo_some o.2 h
      refine ⟨q, by omega, q2, ?_, ?_⟩
      · rw [offGo_cons, if_neg (by omega)]
        exact q3
      · rw [offGo_cons, if_neg (by omega)]
        exact q4
theorem gapGo_hit {rd s : Int} : ∀ {b e : Int} {cs : List (Int × Int)}, okGo b e cs = true → s + offGo (s - 1) b cs ≤ rd → rd < s + offGo s b cs → gapGo rd b cs ≠ none
  | b, e, [], _, h1, h2 => by
    have e1 : offGo (s - 1) b [] = b := rfl
    have e2 : offGo s b [] = b := rfl
    omega
  | b, e, p :: r, o, h1, h2 => by
    rw [okGo_cons, Bool.and_eq_true] at o
    unfold gapGo
    split
    · exact fun q => nomatch q
    · next c =>
      by_cases c1 : p.1 > s
      · rw [offGo_cons, if_pos (by omega)] at h1 h2
        omega
      · by_cases c2 : p.1 = s
        · rw [offGo_cons, if_pos (by omega)] at h1
          rw [offGo_cons, if_neg (by omega), offGo_before o.2 (by omega)] at h2
          exact (c ⟨by omega, by omega⟩).elim
        · rw [offGo_cons, if_neg (by omega)] at h1 h2
          exact gapGo_hit o.2 h1 h2
theorem gapGo_before {z : Zone} (h : OkZ z) {rd : Int} (e : insts z rd = []) : gapGo rd z.1 z.2 = some (before z rd) := by
  obtain ⟨s, a, b, G⟩ := h.gap e
  have b1 := G.bef (s - 1) (by omega) (by omega)
  have a1 := G.aft s (by omega) (by omega)
  have g1 := G.lo
  have g2 := G.hi
  cases q : gapGo rd z.1 z.2 with
  | none => exact (gapGo_hit h.go (s := s) (by unfold off at b1; omega) (by unfold off at a1; omega) q).elim
  | some x =>
    obtain ⟨p, p1, p2, p3, p4⟩ := gapGo_some h.go q
    have p3 : rd < p + off z p := p3
    have p4 : off z (p - 1) = x := p4
    have l1 : p - 1 < s := gap_earlier h G (by omega)
    have es : p = s := by
      by_cases c : p < s
      · have l2 := h.back (t := p) (u := s - 1)
        by_cases c2 : p < s - 1
        · have l3 := l2 c2 (by omega)
          have := G.bef p (by omega) c
          omega
        · have : p = s - 1 := by omega
          subst this
          omega
      · omega
    subst es
    rw [G.bf, ← p4, b1]
theorem insts2 {z : Zone} (hz : OkZ z) {ns : List Int} {t : Int} (r : ns.Pairwise (· < ·)) (m : ∀ k, k ∈ ns ↔ k + off z k = t) : ns = insts z t := rise_ext r (insts_rise z t) fun k => by rw [m, insts_mem hz]
theorem emp_false {α : Type} {xs : List α} (c : xs ≠ []) : (!xs.isEmpty) = true := by
  cases xs with
  | nil => exact (c rfl).elim
  | cons _ _ => rfl
instance decTm {w : Way} {z : Zone} {t : Tm} : Decidable (IsTm w z t) := inferInstanceAs (Decidable (t ∈ times w z t.1))
theorem tm_in {w : Way} {z : Zone} {t : Tm} (c : t.2 = 0 ∨ t.2 = 1) : inV (.int t.2) ((times w z t.1).map fun x => V.int x.2) = decide (IsTm w z t) := by
  have e : ∀ xs : List Tm, (∀ x ∈ xs, x.1 = t.1) → inV (.int t.2) (xs.map fun x => V.int x.2) = decide (t ∈ xs) := by
    intro xs
    induction xs with
    | nil => intro _; exact (decide_eq_false (by simp)).symm
    | cons x xs ih =>
      intro h
      have i := ih fun y hy => h y (by simp [hy])
      have hx := h x (by simp)
      show (eqV (.int x.2) (.int t.2) || inV (.int t.2) (xs.map fun x => V.int x.2)) = _
      rw [i]
      have e1 : eqV (.int x.2) (.int t.2) = decide (t = x) := by
        show (x.2 == t.2) = decide (t = x)
        rw [show (x.2 == t.2) = decide (x.2 = t.2) from rfl]
        exact decide_eq_decide.mpr ⟨fun e => Prod.ext hx.symm e.symm, fun e => by rw [e]⟩
      rw [e1, ← Bool.decide_or]
      exact decide_eq_decide.mpr List.mem_cons.symm
  exact e _ fun x hx => times_rd hx
/-! ### promises -/
def sp_offset_before_gap (K : PySem.W.Frag) : Sp := fun vs H Q _ => ∃ (zv : V) (z : Zone) (t : Int), vs = [zv, .int t] ∧ ZV K H zv z ∧ OkZ z ∧ insts z t = [] ∧ ∀ H', Ex H H' → Q (.int (before z t)) H'
def sp_instant_of_time (K : PySem.W.Frag) : Sp := fun vs H Q _ => ∃ (wv zv tv : V) (w : Way) (z : Zone) (t : Tm), vs = [wv, zv, tv] ∧ WayV K H wv w ∧ ZV K H zv z ∧ OkZ z ∧ PV K H tv t ∧ IsTm w z t ∧ ∀ H', Ex H H' → Q (.int (inst w z t)) H'
def sp_time_at (K : PySem.W.Frag) : Sp := fun vs H Q _ => ∃ (wv zv : V) (w : Way) (z : Zone) (t : Int), vs = [wv, zv, .int t] ∧ WayV K H wv w ∧ ZV K H zv z ∧ OkZ z ∧ ∀ v H', Ex H H' → TV K H' v (at_ w z t) → Q v H'
def sp_time_read (K : PySem.W.Frag) : Sp := fun vs H Q _ => ∃ (wv zv : V) (w : Way) (z : Zone) (t : Int), vs = [wv, zv, .int t] ∧ WayV K H wv w ∧ ZV K H zv z ∧ OkZ z ∧ ∀ v H', Ex H H' → TV K H' v (read_ w z t) → Q v H'
def sp_is_time (K : PySem.W.Frag) : Sp := fun vs H Q _ => ∃ (wv zv tv : V) (w : Way) (z : Zone) (t : Tm), vs = [wv, zv, tv] ∧ WayV K H wv w ∧ ZV K H zv z ∧ okZ z = true ∧ PV K H tv t ∧ -90000 ≤ t.1 ∧ t.1 ≤ 90000 ∧ (t.2 = 0 ∨ t.2 = 1) ∧
  ∀ H', Ex H H' → Q (.bl (decide (IsTm w z t))) H'
def sp_place_of (K : PySem.W.Frag) : Sp := fun vs H Q _ => ∃ (wv zv tv : V) (b : Bool) (w : Way) (z : Zone) (t : Tm), vs = [.str (sumS b), wv, zv, tv] ∧ WayV K H wv w ∧ ZV K H zv z ∧ OkZ z ∧ PV K H tv t ∧ IsTm w z t ∧
  ∀ H', Ex H H' → Q (.int (if b then t.1 else inst w z t)) H'
def sp_time_after (K : PySem.W.Frag) : Sp := fun vs H Q _ => ∃ (wv zv tv : V) (w : Way) (z : Zone) (t : Tm) (d : Int), vs = [wv, zv, tv, .int d] ∧ WayV K H wv w ∧ ZV K H zv z ∧ OkZ z ∧ PV K H tv t ∧ IsTm w z t ∧
  ∀ v H', Ex H H' → TV K H' v (addT w z (some t) d) → Q v H'
def sp_hours_between (K : PySem.W.Frag) : Sp := fun vs H Q _ => ∃ (wv zv av bv : V) (w : Way) (z : Zone) (a b : Tm), vs = [wv, zv, av, bv] ∧ WayV K H wv w ∧ ZV K H zv z ∧ OkZ z ∧ PV K H av a ∧ PV K H bv b ∧ IsTm w z a ∧ IsTm w z b ∧
  ∀ H', Ex H H' → Q (.int (less_ w z a b)) H'
def sp_order_of (K : PySem.W.Frag) : Sp := fun vs H Q _ => ∃ (wv zv av bv : V) (w : Way) (z : Zone) (a b : Tm), vs = [wv, zv, av, bv] ∧ WayV K H wv w ∧ ZV K H zv z ∧ OkZ z ∧ PV K H av a ∧ PV K H bv b ∧ IsTm w z a ∧ IsTm w z b ∧
  ∀ H', Ex H H' → Q (.int (cmp (key w z a) (key w z b))) H'
section
variable {P : Program} {w : World} {K : PySem.W.Frag} {mg : Str → Option Value} {base : Heap}
theorem ok_offset_before_gap (T : Txt w K mg) : FnOk P w K mg base CX0 1 T.f_offset_before_gap.f T.f_offset_before_gap.fd ["zone", "reading"] (sp_offset_before_gap K) := by
  refine T.f_offset_before_gap.F.ok sc_offset_before_gap (fun vs H Q E h => ?_) (fun cdv A outer s H vs Q E hr h => ?_)
  · obtain ⟨zv, z, t, rfl, _⟩ := h
    rfl
  obtain ⟨zv, z, t, rfl, ⟨a, c, rfl, ha, b, xs, rfl, hb, hp⟩, hz, he, k⟩ := h
  have g0 := gapGo_before hz he
  refine ⟨(tSeq (tAsg (tVar 0) (gTup K 2 (gCons (gName 2) (gCons (gName 3) gNil)))) (tSeq (tFor (iTup K (tVar 3)) (gTup K 2 (gCons (gName 4) (gCons (gName 5) gNil))) (tSeq (tIfS (tTest (tChain (rI0 fun i j => .bl (decide (i ≤ j))) (rI0 fun i j => .bl (decide (i < j))) (tOp (rI0 fun i j => .int (i + j)) (tVar 4) (tVar 2)) (tVar 1) (tOp (rI0 fun i j => .int (i + j)) (tVar 4) (tVar 5)))) (tRet (tVar 2)) tNext) (tAsg (tVar 5) (gName 2)))) (tRet (tC .non)))),
    PSs.nox (pss_cons (ps_asg (pv 0) (pg_tup rfl (pgs_cons (pg_name (i := 2) sc_offset_before_gap.nd rfl (Or.inl rfl)) (pgs_cons (pg_name (i := 3) sc_offset_before_gap.nd rfl (Or.inl rfl)) pgs_nil)))) (pss_cons (ps_for PassesOwn.never rfl (pi_tup (pv 3)) (pg_tup rfl (pgs_cons (pg_name (i := 4) sc_offset_before_gap.nd rfl (Or.inl rfl)) (pgs_cons (pg_name (i := 5) sc_offset_before_gap.nd rfl (Or.inl rfl)) pgs_nil))) (pss_cons (ps_if (pt_chain op_le op_lt (pe_op op_add (pv 4) (pv 2)) (pv 1) (pe_op op_add (pv 4) (pv 5))) (pss_one (ps_ret (pv 2))) pss_nil) (pss_one (ps_set (i := 2) sc_offset_before_gap.nd rfl (Or.inl rfl) (pv 5))))) (pss_one (ps_ret pe_non)))), ?_⟩
  walk_at "gg"
  refine g_forT (F := PV K) hb hp (fun l σ' H' => Ex H H' ∧ ∃ cur s0 a0, gapGo t cur l = some (before z t) ∧ σ' = [some (.ref a), some (.int t), some (.int cur), some (.ref b), s0, a0])
    ⟨Evl.Ex.refl _, _, _, _, g0, rfl⟩ (fun _ _ _ q => ⟨Evl.ex_t q.1 hb, fun _ _ h => h.tr (TrT.of q.1)⟩) ?_ ?_
  · rintro p l x σ' H' ⟨e, cur, s0, a0, q, rfl⟩ ⟨y, rfl, hy⟩
    unfold gapGo at q
    walk_at "gg"
    refine if_d (fun c => ?_) (fun c => ?_)
    · walk_at "gg"
      refine if_d (fun c2 => ?_) (fun c2 => ?_)
      · walk_at "gg"
        rw [if_pos ⟨c, c2⟩] at q
        rw [Option.some.inj q]
        exact k _ e
      · walk_at "gg"
        rw [if_neg fun h => c2 h.2] at q
        exact ⟨e, _, _, _, q, rfl⟩
    · walk_at "gg"
      rw [if_neg fun h => c h.1] at q
      exact ⟨e, _, _, _, q, rfl⟩
  · rintro σ' H' ⟨e, cur, s0, a0, q, rfl⟩
    cases q
theorem ok_instant_of_time (T : Txt w K mg) : FnOk P w K mg base CX0 3 T.f_instant_of_time.f T.f_instant_of_time.fd ["library", "zone", "time"] (sp_instant_of_time K) := by
  refine T.f_instant_of_time.F.ok sc_instant_of_time (fun vs H Q E h => ?_) (fun cdv A outer s H vs Q E hr h => ?_)
  · obtain ⟨wv, zv, tv, w, z, t, rfl, _⟩ := h
    rfl
  obtain ⟨wv, zv, tv, w, z, t, rfl, ⟨wa, rfl, hw⟩, hv, hz, ⟨ta, rfl, ht⟩, hi, k⟩ := h
  unfold inst at k
  refine ⟨(tSeq (tAsg (tVar 2) (gTup K 2 (gCons (gName 3) (gCons (gName 4) gNil)))) (tSeq (tAsg (tCall (sp_instants_with K) [] E0 (tCons (tVar 1) (tCons (tVar 3) tNil))) (gName 5)) (tSeq (tIfS (tNot (tTru K (tVar 5))) (tRet (tOp (rI0 fun i j => .int (i - j)) (tVar 3) (tCall (sp_offset_before_gap K) [] E0 (tCons (tVar 1) (tCons (tVar 3) tNil))))) tNext) (tSeq (tIfS (tAnd (tTest (tOp rEq (tCB (Evl.rLenS K) (tCons (tVar 5) tNil)) (tC (.int 2)))) (tTest (tOp rEq (tOp (rIxT K) (tVar 0) (tC (.int 3))) (tC (.str "second"))))) (tRet (tOp (rIxT K) (tVar 5) (tC (.int 1)))) tNext) (tRet (tOp (rIxT K) (tVar 5) (tVar 4))))))),
    PSs.nox (pss_cons (ps_asg (pv 2) (pg_tup rfl (pgs_cons (pg_name (i := 3) sc_instant_of_time.nd rfl (Or.inl rfl)) (pgs_cons (pg_name (i := 4) sc_instant_of_time.nd rfl (Or.inl rfl)) pgs_nil)))) (pss_cons (ps_set (i := 5) sc_instant_of_time.nd rfl (Or.inl rfl) (pe_call (ok_instants_with T) (hr.mono (by decide)) (by rfl) T.f_instants_with.g T.f_instants_with.F.kp T.f_instants_with.b .nil pass0 (pa_cons (pv 1) (pa_cons (pv 3) pa_nil)))) (pss_cons (ps_if (pt_not (pt_tru (pv 5))) (pss_one (ps_ret (pe_op op_sub (pv 3) (pe_call (ok_offset_before_gap T) (hr.mono (by decide)) (by rfl) T.f_offset_before_gap.g T.f_offset_before_gap.F.kp T.f_offset_before_gap.b .nil pass0 (pa_cons (pv 1) (pa_cons (pv 3) pa_nil)))))) pss_nil) (pss_cons (ps_if (PW.pt (pw_and (pt_cmpR op_eq (pe_callB call_len_seq (by rfl) T.z_len (by decide +kernel) (pa_cons (pv 5) pa_nil)) pe_int (nomark _)) (pw_and1 (pt_cmpR op_eq (pe_ix ix_tup (pv 0) pe_int (fun _ _ => rfl)) pe_str (nomark _))))) (pss_one (ps_ret (pe_ix ix_tup (pv 5) pe_int (fun _ _ => rfl)))) pss_nil) (pss_one (ps_ret (pe_ix ix_tup (pv 5) (pv 4) (fun _ _ => rfl)))))))), ?_⟩
  walk_at "gg"
  refine ⟨_, z, _, rfl, hv, hz.len, fun p1 H1 ns n1 e1 h1 r1 m1 => ?_⟩
  have en := insts2 hz r1 m1
  subst en
  walk_at "gg"
  refine g_tru ?_
  walk_at "gg"
  refine g_truT h1.sq ?_
  by_cases c : insts z t.1 = []
  · rw [if_pos c] at k
    rw [show ((insts z t.1).map V.int).isEmpty = true by rw [c] <;> rfl]
    walk_at "gg"
    refine ⟨_, z, _, rfl, hv.tr (TrT.of e1), hz, c, fun H2 e2 => ?_⟩
    walk_at "gg"
    exact k _ (e1.trans e2)
  · rw [if_neg c] at k
    have l0 : 0 < (insts z t.1).length := List.length_pos_iff.mpr c
    rw [show ((insts z t.1).map V.int).isEmpty = false by
      cases q : insts z t.1 with
      | nil => exact (c q).elim
      | cons _ _ => rfl]
    walk_at "gg"
    refine g_lenT h1.sq ?_
    rw [List.length_map]
    walk_at "gg"
    have last : ∀ Q' : VK, Q' (.int ((insts z t.1)[t.2.toNat]?.getD 0)) H1 → rIxT K (.ref p1) (.int t.2) H1 Q' := by
      intro Q' k'
      have lt : t.2.toNat < (insts z t.1).length := by
        rcases hi.pass with p | p
        · rw [p]; exact l0
        · rw [p.1, p.2.2]; decide
      have p0 : 0 ≤ t.2 := by rcases hi.pass with p | p <;> omega
      rw [List.getElem?_eq_getElem lt] at k'
      refine g_ixT h1.sq (v := .int ((insts z t.1)[t.2.toNat])) (atI_of p0 ?_) k'
      rw [List.getElem?_map, List.getElem?_eq_getElem lt]
      rfl
    refine if_d (fun c2 => ?_) (fun c2 => ?_)
    · walk_at "gg"
      rw [fold_second]
      refine if_d (fun c3 => ?_) (fun c3 => ?_)
      · rw [if_pos c3] at k
        walk_at "gg"
        have c2 : (insts z t.1).length = 2 := by omega
        obtain ⟨A, B, eAB⟩ : ∃ A B, insts z t.1 = [A, B] := by
          match q : insts z t.1, c2 with
          | [A, B], _ => exact ⟨A, B, rfl⟩
        rw [eAB] at k h1
        refine g_ixT h1.sq (v := .int B) rfl ?_
        exact k _ e1
      · rw [if_neg c3] at k
        walk_at "gg"
        exact last _ (k _ e1)
    · walk_at "gg"
      have nb : w.fold ≠ .second ∨ (insts z t.1).length ≠ 2 := .inr (by omega)
      refine last _ ?_
      by_cases c3 : w.fold = .second
      · rw [if_pos c3] at k
        have p0 : t.2 = 0 := by
          rcases hi.pass with p | p
          · exact p
          · rw [p.2.1] at c3; cases c3
        have l2 := hz.le2 t.1
        obtain ⟨A, eA⟩ : ∃ A, insts z t.1 = [A] := by
          match q : insts z t.1 with
          | [] => exact (c q).elim
          | [A] => exact ⟨A, rfl⟩
          | A :: B :: r =>
            rw [q] at c2 l2
            simp only [List.length_cons] at c2 l2
            omega
        rw [eA] at k ⊢
        rw [p0]
        exact k _ e1
      · rw [if_neg c3] at k
        exact k _ e1
theorem ok_time_at (T : Txt w K mg) : FnOk P w K mg base CX0 3 T.f_time_at.f T.f_time_at.fd ["library", "zone", "instant"] (sp_time_at K) := by
  refine T.f_time_at.F.ok sc_time_at (fun vs H Q E h => ?_) (fun cdv A outer s H vs Q E hr h => ?_)
  · obtain ⟨wv, zv, w, z, t, rfl, _⟩ := h
    rfl
  obtain ⟨wv, zv, w, z, t, rfl, ⟨wa, rfl, hw⟩, hv, hz, k⟩ := h
  unfold at_ at k
  refine ⟨(tSeq (tAsg (tOp (rI0 fun i j => .int (i + j)) (tVar 2) (tCall (sp_offset_in_force K) [] E0 (tCons (tVar 1) (tCons (tVar 2) tNil)))) (gName 3)) (tSeq (tAsg (tCall (sp_instants_with K) [] E0 (tCons (tVar 1) (tCons (tVar 3) tNil))) (gName 4)) (tSeq (tIfS (tAnd (tTest (tOp rEq (tCB (Evl.rLenS K) (tCons (tVar 4) tNil)) (tC (.int 2)))) (tTest (tOp rEq (tOp (rIxT K) (tVar 0) (tC (.int 3))) (tC (.str "refuse"))))) (tRet (tC (.str "refused"))) tNext) (tSeq (tIfS (tAnd (tTest (tOp rEq (tCB (Evl.rLenS K) (tCons (tVar 4) tNil)) (tC (.int 2)))) (tTest (tOp rEq (tOp (rIxT K) (tVar 0) (tC (.int 3))) (tC (.str "both"))))) (tRet (tTup (tCons (tVar 3) (tCons (tBMT (rTupIx K) (tVar 4) (tCons (tVar 2) tNil)) tNil)))) tNext) (tRet (tTup (tCons (tVar 3) (tCons (tC (.int 0)) tNil)))))))),
    PSs.nox (pss_cons (ps_set (i := 3) sc_time_at.nd rfl (Or.inl rfl) (pe_op op_add (pv 2) (pe_call (ok_offset_in_force T) (hr.mono (by decide)) (by rfl) T.f_offset_in_force.g T.f_offset_in_force.F.kp T.f_offset_in_force.b .nil pass0 (pa_cons (pv 1) (pa_cons (pv 2) pa_nil))))) (pss_cons (ps_set (i := 4) sc_time_at.nd rfl (Or.inl rfl) (pe_call (ok_instants_with T) (hr.mono (by decide)) (by rfl) T.f_instants_with.g T.f_instants_with.F.kp T.f_instants_with.b .nil pass0 (pa_cons (pv 1) (pa_cons (pv 3) pa_nil)))) (pss_cons (ps_if (PW.pt (pw_and (pt_cmpR op_eq (pe_callB call_len_seq (by rfl) T.z_len (by decide +kernel) (pa_cons (pv 4) pa_nil)) pe_int (nomark _)) (pw_and1 (pt_cmpR op_eq (pe_ix ix_tup (pv 0) pe_int (fun _ _ => rfl)) pe_str (nomark _))))) (pss_one (ps_ret (pe_glob (by rfl) T.c_REFUSED ⟨_, rfl⟩))) pss_nil) (pss_cons (ps_if (PW.pt (pw_and (pt_cmpR op_eq (pe_callB call_len_seq (by rfl) T.z_len (by decide +kernel) (pa_cons (pv 4) pa_nil)) pe_int (nomark _)) (pw_and1 (pt_cmpR op_eq (pe_ix ix_tup (pv 0) pe_int (fun _ _ => rfl)) pe_str (nomark _))))) (pss_one (ps_ret (pe_tup (pa_cons (pv 3) (pa_cons (pe_bmT PySem.F.plainAttrs_tuple PySem.F.slot_tuple_index PySem.F.type_tuple_index mt_tupIx (pv 4) (pa_cons (pv 2) pa_nil)) pa_nil))))) pss_nil) (pss_one (ps_ret (pe_tup (pa_cons (pv 3) (pa_cons pe_int pa_nil))))))))), ?_⟩
  walk_at "gg"
  refine ⟨_, z, _, rfl, hv, fun H1 e1 => ?_⟩
  walk_at "gg"
  refine ⟨_, z, _, rfl, hv.tr (TrT.of e1), hz.len, fun p2 H2 ns n2 e2 h2 r2 m2 => ?_⟩
  have en := insts2 hz r2 m2
  subst en
  have e12 := e1.trans e2
  walk_at "gg"
  refine g_lenT h2.sq ?_
  rw [List.length_map]
  walk_at "gg"
  have plain : ∀ j : Int, j = (if w.fold = .both ∧ t ≠ (insts z (t + off z t)).head?.getD 0 then 1 else 0) → ¬ ((insts z (t + off z t)).length = 2 ∧ w.fold = .refuse) →
      ∀ p H3, Ex H2 H3 → H3 p = some (.tup [.int (t + off z t), .int j]) → Q (.ref p) H3 := by
    intro j ej c p H3 e3 h3
    rw [if_neg c] at k
    subst ej
    exact k _ _ (e12.trans e3) ⟨p, rfl, SqT.of h3⟩
  have hs := insts_self hz t
  refine if_d (fun c => ?_) (fun c => ?_)
  · have c' : (insts z (t + off z t)).length = 2 := by omega
    obtain ⟨A, B, eAB⟩ : ∃ A B, insts z (t + off z t) = [A, B] := by
      match q : insts z (t + off z t), c' with
      | [A, B], _ => exact ⟨A, B, rfl⟩
    have rs := insts_rise z (t + off z t)
    rw [eAB] at rs hs plain h2
    have lt : A < B := by
      rw [List.pairwise_cons] at rs
      exact rs.1 B (by simp)
    walk_at "gg"
    rw [fold_refuse]
    refine if_d (fun c2 => ?_) (fun c2 => ?_)
    · walk_at "gg"
      rw [if_pos ⟨c', c2⟩] at k
      exact k _ _ e12 rfl
    · walk_at "gg"
      refine g_lenT h2.sq ?_
      walk_at "gg"
      rw [fold_both]
      refine if_d (fun c3 => ?_) (fun c3 => ?_)
      · walk_at "gg"
        refine g_bmT rfl h2 ?_
        walk_at "gg"
        have ix : ∃ j : Nat, [A, B][j]? = some t ∧ (∀ m, m < j → [A, B][m]? ≠ some t) ∧ (j : Int) = (if w.fold = .both ∧ t ≠ A then 1 else 0) := by
          simp only [List.mem_cons, List.not_mem_nil, or_false] at hs
          rcases hs with rfl | rfl
          · refine ⟨0, rfl, fun m hm => absurd hm (by omega), ?_⟩
            rw [if_neg fun h => h.2 rfl]
            rfl
          · refine ⟨1, rfl, fun m hm => ?_, ?_⟩
            · have : m = 0 := by omega
              subst this
              show some A ≠ some t
              intro q
              have := Option.some.inj q
              omega
            · rw [if_pos ⟨c3, by omega⟩]
              rfl
        obtain ⟨j, j1, j2, j3⟩ := ix
        refine ⟨_, _, _, j, rfl, rfl, h2.sq, j1, j2, ?_⟩
        walk_at "gg"
        refine g_newT (by simp) fun p3 H3 n3 e3 h3 => ?_
        exact plain _ j3 (fun h => c2 h.2) p3 H3 e3 h3
      · walk_at "gg"
        refine g_newT (by simp) fun p3 H3 n3 e3 h3 => ?_
        exact plain _ (by rw [if_neg fun h => c3 h.1]) (fun h => c2 h.2) p3 H3 e3 h3
  · walk_at "gg"
    refine g_lenT h2.sq ?_
    rw [List.length_map]
    walk_at "gg"
    refine if_f (decide_eq_false c) ?_
    walk_at "gg"
    refine g_newT (by simp) fun p3 H3 n3 e3 h3 => ?_
    have l2 := hz.le2 (t + off z t)
    obtain ⟨A, eA⟩ : ∃ A, insts z (t + off z t) = [A] := by
      match q : insts z (t + off z t) with
      | [] => rw [q] at hs; cases hs
      | [A] => exact ⟨A, rfl⟩
      | A :: B :: r =>
        rw [q] at c l2
        simp only [List.length_cons] at c l2
        omega
    refine plain _ ?_ (fun h => by rw [eA] at h; cases h.1) p3 H3 e3 h3
    rw [eA] at hs ⊢
    rw [if_neg]
    rintro ⟨_, q⟩
    exact q (List.mem_singleton.mp hs)
theorem ok_time_read (T : Txt w K mg) : FnOk P w K mg base CX0 4 T.f_time_read.f T.f_time_read.fd ["library", "zone", "reading"] (sp_time_read K) := by
  refine T.f_time_read.F.ok sc_time_read (fun vs H Q E h => ?_) (fun cdv A outer s H vs Q E hr h => ?_)
  · obtain ⟨wv, zv, y, z, t, rfl, _⟩ := h
    rfl
  obtain ⟨wv, zv, y, z, t, rfl, ⟨a, rfl, hw⟩, hv, hz, k⟩ := h
  unfold read_ at k
  refine ⟨(tSeq (tAsg (tSl (rSlT K) (tVar 0) (tPart (tC (.int 2))) tNoPart) (gTup K 2 (gCons (gName 3) (gCons (gName 4) gNil)))) (tSeq (tAsg (tCB (Evl.rLenS K) (tCons (tCall (sp_instants_with K) [] E0 (tCons (tVar 1) (tCons (tVar 2) tNil))) tNil)) (gName 5)) (tSeq (tIfS (tAnd (tTest (tOp rEq (tVar 5) (tC (.int 0)))) (tTest (tOp rEq (tVar 3) (tC (.str "shift"))))) (tRet (tCall (sp_time_at K) [] E0 (tCons (tVar 0) (tCons (tVar 1) (tCons (tOp (rI0 fun i j => .int (i - j)) (tVar 2) (tCall (sp_offset_before_gap K) [] E0 (tCons (tVar 1) (tCons (tVar 2) tNil)))) tNil))))) tNext) (tSeq (tIfS (tAnd (tTest (tOp rEq (tVar 5) (tC (.int 0)))) (tTest (tOp rEq (tVar 3) (tC (.str "refuse"))))) (tRet (tC (.str "refused"))) tNext) (tSeq (tIfS (tAnd (tTest (tOp rEq (tVar 5) (tC (.int 2)))) (tTest (tOp rEq (tVar 4) (tC (.str "refuse"))))) (tRet (tC (.str "refused"))) tNext) (tRet (tTup (tCons (tVar 2) (tCons (tC (.int 0)) tNil))))))))),
    PSs.nox (pss_cons (ps_asg (pe_slice sl_tup (pv 0) (po_some pe_int) po_none) (pg_tup rfl (pgs_cons (pg_name (i := 3) sc_time_read.nd rfl (Or.inl rfl)) (pgs_cons (pg_name (i := 4) sc_time_read.nd rfl (Or.inl rfl)) pgs_nil)))) (pss_cons (ps_set (i := 5) sc_time_read.nd rfl (Or.inl rfl) (pe_callB call_len_seq (by rfl) T.z_len (by decide +kernel) (pa_cons (pe_call (ok_instants_with T) (hr.mono (by decide)) (by rfl) T.f_instants_with.g T.f_instants_with.F.kp T.f_instants_with.b .nil pass0 (pa_cons (pv 1) (pa_cons (pv 2) pa_nil))) pa_nil))) (pss_cons (ps_if (PW.pt (pw_and (pt_cmpR op_eq (pv 5) pe_int (nomark _)) (pw_and1 (pt_cmpR op_eq (pv 3) pe_str (nomark _))))) (pss_one (ps_ret (pe_call (ok_time_at T) (hr.mono (by decide)) (by rfl) T.f_time_at.g T.f_time_at.F.kp T.f_time_at.b .nil pass0 (pa_cons (pv 0) (pa_cons (pv 1) (pa_cons (pe_op op_sub (pv 2) (pe_call (ok_offset_before_gap T) (hr.mono (by decide)) (by rfl) T.f_offset_before_gap.g T.f_offset_before_gap.F.kp T.f_offset_before_gap.b .nil pass0 (pa_cons (pv 1) (pa_cons (pv 2) pa_nil)))) pa_nil)))))) pss_nil) (pss_cons (ps_if (PW.pt (pw_and (pt_cmpR op_eq (pv 5) pe_int (nomark _)) (pw_and1 (pt_cmpR op_eq (pv 3) pe_str (nomark _))))) (pss_one (ps_ret (pe_glob (by rfl) T.c_REFUSED ⟨_, rfl⟩))) pss_nil) (pss_cons (ps_if (PW.pt (pw_and (pt_cmpR op_eq (pv 5) pe_int (nomark _)) (pw_and1 (pt_cmpR op_eq (pv 4) pe_str (nomark _))))) (pss_one (ps_ret (pe_glob (by rfl) T.c_REFUSED ⟨_, rfl⟩))) pss_nil) (pss_one (ps_ret (pe_tup (pa_cons (pv 2) (pa_cons pe_int pa_nil)))))))))), ?_⟩
  walk_at "gg"
  refine g_slice ?_
  walk_at "gg"
  refine g_slT (k := 2) (ys := [.str (gapS y.gap), .str (foldS y.fold)]) hw (by decide) (by simp) rfl fun p1 H1 n1 e1 h1 => ?_
  walk_at "gg"
  refine ⟨_, z, _, rfl, hv.tr (TrT.of e1), hz.len, fun p2 H2 ns n2 e2 h2 r2 m2 => ?_⟩
  have en := insts2 hz r2 m2
  subst en
  have e12 := e1.trans e2
  walk_at "gg"
  refine g_lenT h2.sq ?_
  rw [List.length_map]
  walk_at "gg"
  have hw2 : WayV K H2 (.ref a) y := ⟨a, rfl, Evl.ex_t e12 hw⟩
  have plain : (∀ v H', Ex H H' → TV K H' v (some (t, 0)) → Q v H') → ∀ p H3, Ex H2 H3 → H3 p = some (.tup [.int t, .int 0]) → Q (.ref p) H3 :=
    fun q p H3 e3 h3 => q _ _ (e12.trans e3) ⟨p, rfl, SqT.of h3⟩
  refine if_d (fun c => ?_) (fun c => ?_)
  · have c' : insts z t = [] := List.length_eq_zero_iff.mp (by omega)
    rw [if_pos c'] at k
    walk_at "gg"
    rw [gap_shift]
    refine if_d (fun c2 => ?_) (fun c2 => ?_)
    · walk_at "gg"
      rw [c2] at k
      refine ⟨_, z, _, rfl, hv.tr (TrT.of e12), hz, c', fun H3 e3 => ?_⟩
      walk_at "gg"
      exact ⟨_, _, y, z, _, rfl, hw2.tr (TrT.of e3), hv.tr (TrT.of (e12.trans e3)), hz, fun v H4 e4 => k v H4 ((e12.trans e3).trans e4)⟩
    · walk_at "gg"
      refine if_t (decide_eq_true c) ?_
      walk_at "gg"
      rw [gap_refuse]
      refine if_d (fun c3 => ?_) (fun c3 => ?_)
      · walk_at "gg"
        rw [c3] at k
        exact k _ _ e12 rfl
      · walk_at "gg"
        refine if_f (decide_eq_false (by omega)) ?_
        walk_at "gg"
        refine g_newT (by simp) fun p3 H3 n3 e3 h3 => ?_
        have : y.gap = .keep := by
          cases q : y.gap
          · rfl
          · exact (c3 q).elim
          · exact (c2 q).elim
        rw [this] at k
        exact plain k p3 H3 e3 h3
  · have c' : insts z t ≠ [] := fun q => c (by rw [q]; rfl)
    rw [if_neg c'] at k
    walk_at "gg"
    refine if_f (decide_eq_false c) ?_
    walk_at "gg"
    refine if_d (fun c2 => ?_) (fun c2 => ?_)
    · walk_at "gg"
      rw [fold_refuse]
      refine if_d (fun c3 => ?_) (fun c3 => ?_)
      · walk_at "gg"
        rw [if_pos ⟨c3, by omega⟩] at k
        exact k _ _ e12 rfl
      · walk_at "gg"
        refine g_newT (by simp) fun p3 H3 n3 e3 h3 => ?_
        rw [if_neg fun h => c3 h.1] at k
        exact plain k p3 H3 e3 h3
    · walk_at "gg"
      refine g_newT (by simp) fun p3 H3 n3 e3 h3 => ?_
      rw [if_neg fun h => c2 (by omega)] at k
      exact plain k p3 H3 e3 h3
theorem ok_place_of (T : Txt w K mg) : FnOk P w K mg base CX0 4 T.f_place_of.f T.f_place_of.fd ["way", "library", "zone", "time"] (sp_place_of K) := by
  refine T.f_place_of.F.ok sc_place_of (fun vs H Q E h => ?_) (fun cdv A outer s H vs Q E hr h => ?_)
  · obtain ⟨wv, zv, tv, b, w, z, t, rfl, _⟩ := h
    rfl
  obtain ⟨wv, zv, tv, b, w, z, t, rfl, hwv, hv, hz, ht, hi, k⟩ := h
  obtain ⟨ta, rfl, ht'⟩ := id ht
  refine ⟨(tSeq (tIfS (tTest (tOp rEq (tVar 0) (tC (.str "wall")))) (tRet (tOp (rIxT K) (tVar 3) (tC (.int 0)))) tNext) (tRet (tCall (sp_instant_of_time K) [] E0 (tCons (tVar 1) (tCons (tVar 2) (tCons (tVar 3) tNil)))))),
    PSs.nox (pss_cons (ps_if (pt_cmpR op_eq (pv 0) pe_str (nomark _)) (pss_one (ps_ret (pe_ix ix_tup (pv 3) pe_int (fun _ _ => rfl)))) pss_nil) (pss_one (ps_ret (pe_call (ok_instant_of_time T) (hr.mono (by decide)) (by rfl) T.f_instant_of_time.g T.f_instant_of_time.F.kp T.f_instant_of_time.b .nil pass0 (pa_cons (pv 1) (pa_cons (pv 2) (pa_cons (pv 3) pa_nil))))))), ?_⟩
  walk_at "gg"
  rw [sum_wall]
  cases b with
  | true =>
    walk_at "gg"
    exact k _ (Evl.Ex.refl _)
  | false =>
    walk_at "gg"
    exact ⟨_, _, _, w, z, t, rfl, hwv, hv, hz, ht, hi, k⟩
theorem ok_time_after (T : Txt w K mg) : FnOk P w K mg base CX0 5 T.f_time_after.f T.f_time_after.fd ["library", "zone", "time", "duration"] (sp_time_after K) := by
  refine T.f_time_after.F.ok sc_time_after (fun vs H Q E h => ?_) (fun cdv A outer s H vs Q E hr h => ?_)
  · obtain ⟨wv, zv, tv, w, z, t, d, rfl, _⟩ := h
    rfl
  obtain ⟨wv, zv, tv, w, z, t, d, rfl, hwv, hv, hz, ht, hi, k⟩ := h
  obtain ⟨wa, rfl, hw⟩ := id hwv
  unfold addT at k
  simp only at k
  refine ⟨(tSeq (tAsg (tOp (rIxT K) (tVar 0) (tC (.int 0))) (gName 4)) (tSeq (tAsg (tOp (rI0 fun i j => .int (i + j)) (tCall (sp_place_of K) [] E0 (tCons (tVar 4) (tCons (tVar 0) (tCons (tVar 1) (tCons (tVar 2) tNil))))) (tVar 3)) (gName 5)) (tSeq (tIfS (tTest (tOp rEq (tVar 4) (tC (.str "wall")))) (tRet (tCall (sp_time_read K) [] E0 (tCons (tVar 0) (tCons (tVar 1) (tCons (tVar 5) tNil))))) tNext) (tRet (tCall (sp_time_at K) [] E0 (tCons (tVar 0) (tCons (tVar 1) (tCons (tVar 5) tNil)))))))),
    PSs.nox (pss_cons (ps_set (i := 4) sc_time_after.nd rfl (Or.inl rfl) (pe_ix ix_tup (pv 0) pe_int (fun _ _ => rfl))) (pss_cons (ps_set (i := 5) sc_time_after.nd rfl (Or.inl rfl) (pe_op op_add (pe_call (ok_place_of T) (hr.mono (by decide)) (by rfl) T.f_place_of.g T.f_place_of.F.kp T.f_place_of.b .nil pass0 (pa_cons (pv 4) (pa_cons (pv 0) (pa_cons (pv 1) (pa_cons (pv 2) pa_nil))))) (pv 3))) (pss_cons (ps_if (pt_cmpR op_eq (pv 4) pe_str (nomark _)) (pss_one (ps_ret (pe_call (ok_time_read T) (hr.mono (by decide)) (by rfl) T.f_time_read.g T.f_time_read.F.kp T.f_time_read.b .nil pass0 (pa_cons (pv 0) (pa_cons (pv 1) (pa_cons (pv 5) pa_nil)))))) pss_nil) (pss_one (ps_ret (pe_call (ok_time_at T) (hr.mono (by decide)) (by rfl) T.f_time_at.g T.f_time_at.F.kp T.f_time_at.b .nil pass0 (pa_cons (pv 0) (pa_cons (pv 1) (pa_cons (pv 5) pa_nil))))))))), ?_⟩
  walk_at "gg"
  refine ⟨_, _, _, w.ws, w, z, t, rfl, hwv, hv, hz, ht, hi, fun H1 e1 => ?_⟩
  walk_at "gg"
  rw [sum_wall]
  cases hs : w.ws with
  | true =>
    rw [hs, if_pos rfl] at k
    walk_at "gg"
    exact ⟨_, _, w, z, _, rfl, hwv.tr (TrT.of e1), hv.tr (TrT.of e1), hz, fun v H2 e2 => k v H2 (e1.trans e2)⟩
  | false =>
    rw [hs, if_neg (by decide)] at k
    walk_at "gg"
    exact ⟨_, _, w, z, _, rfl, hwv.tr (TrT.of e1), hv.tr (TrT.of e1), hz, fun v H2 e2 => k v H2 (e1.trans e2)⟩
end
local macro_rules | `(tactic| walk_at "m") => `(tactic| first
  | with_reducible refine g_m1 ?_
  | with_reducible refine g_isS ?_
  | with_reducible refine g_lcStr ?_
  | with_reducible refine g_join ?_
  | with_reducible refine g_js ?_
  | with_reducible refine g_jsN ?_
  | with_reducible refine g_fmt ?_
  | with_reducible refine g_callLam ?_
  | with_reducible refine g_revT ?_)
local macro_rules | `(tactic| walk_at "m") => `(tactic| first
  | with_reducible refine g_sfld ?_
  | with_reducible refine g_fld ?_
  | with_reducible refine g_meth ?_
  | with_reducible refine g_make ?_
  | with_reducible refine g_prop ?_
  | with_reducible refine g_del ?_)

/-! ### promises -/
def sp_is_duration (K : PySem.W.Frag) : Sp := fun vs H Q _ => ∃ v : Int, vs = [.int v] ∧ Q (.bl (decide (-9000 ≤ v ∧ v ≤ 9000))) H
def sp_check_duration (K : PySem.W.Frag) : Sp := fun vs H Q _ => ∃ v : Int, vs = [.int v] ∧ -9000 ≤ v ∧ v ≤ 9000 ∧ Q .non H
/-- a time as an argument -/
structure ArgT (K : PySem.W.Frag) (H : Hp) (w : Way) (z : Zone) (v : V) (t : Tm) : Prop where
  pv_ : PV K H v t
  lo : -90000 ≤ t.1
  hi : t.1 ≤ 90000
  ok : IsTm w z t
theorem ArgT.tr {K : PySem.W.Frag} {H H' : Hp} {w : Way} {z : Zone} {v : V} {t : Tm} (e : TrT K H H') (h : ArgT K H w z v t) : ArgT K H' w z v t := ⟨h.pv_.tr e, h.lo, h.hi, h.ok⟩
theorem IsTm.turn {w : Way} {z : Zone} {t : Tm} (q : IsTm w z t) : t.2 = 0 ∨ t.2 = 1 := by
  rcases q.pass with p | p
  · exact .inl p
  · exact .inr p.1
def sp_check_time (K : PySem.W.Frag) : Sp := fun vs H Q _ => ∃ (wv zv tv : V) (w : Way) (z : Zone) (t : Tm), vs = [wv, zv, tv] ∧ WayV K H wv w ∧ ZV K H zv z ∧ okZ z = true ∧ ArgT K H w z tv t ∧ ∀ H', Ex H H' → Q .non H'
def sp_to_instant (K : PySem.W.Frag) : Sp := fun vs H Q _ => ∃ (wv zv tv : V) (w : Way) (z : Zone) (t : Tm), vs = [wv, zv, tv] ∧ WayV K H wv w ∧ ZV K H zv z ∧ okZ z = true ∧ ArgT K H w z tv t ∧ ∀ H', Ex H H' → Q (.int (inst w z t)) H'
def sp_from_instant (K : PySem.W.Frag) : Sp := fun vs H Q _ => ∃ (wv zv : V) (w : Way) (z : Zone) (t : Int), vs = [wv, zv, .int t] ∧ WayV K H wv w ∧ ZV K H zv z ∧ okZ z = true ∧ -100000 ≤ t ∧ t ≤ 100000 ∧ ∀ v H', Ex H H' → TV K H' v (at_ w z t) → Q v H'
def sp_read (K : PySem.W.Frag) : Sp := fun vs H Q _ => ∃ (wv zv : V) (w : Way) (z : Zone) (t : Int), vs = [wv, zv, .int t] ∧ WayV K H wv w ∧ ZV K H zv z ∧ okZ z = true ∧ -90000 ≤ t ∧ t ≤ 90000 ∧ ∀ v H', Ex H H' → TV K H' v (read_ w z t) → Q v H'
def sp_add (K : PySem.W.Frag) : Sp := fun vs H Q _ => ∃ (wv zv tv : V) (w : Way) (z : Zone) (t : Tm) (d : Int), vs = [wv, zv, tv, .int d] ∧ WayV K H wv w ∧ ZV K H zv z ∧ okZ z = true ∧ ArgT K H w z tv t ∧ -9000 ≤ d ∧ d ≤ 9000 ∧ ∀ v H', Ex H H' → TV K H' v (addT w z (some t) d) → Q v H'
def sp_subtract (K : PySem.W.Frag) : Sp := fun vs H Q _ => ∃ (wv zv av bv : V) (w : Way) (z : Zone) (a b : Tm), vs = [wv, zv, av, bv] ∧ WayV K H wv w ∧ ZV K H zv z ∧ okZ z = true ∧ ArgT K H w z av a ∧ ArgT K H w z bv b ∧ ∀ H', Ex H H' → Q (.int (less_ w z a b)) H'
def sp_compare (K : PySem.W.Frag) : Sp := fun vs H Q _ => ∃ (wv zv av bv : V) (w : Way) (z : Zone) (a b : Tm), vs = [wv, zv, av, bv] ∧ WayV K H wv w ∧ ZV K H zv z ∧ okZ z = true ∧ ArgT K H w z av a ∧ ArgT K H w z bv b ∧ ∀ H', Ex H H' → Q (.int (cmp (key w z a) (key w z b))) H'
section
variable {P : Program} {w : World} {K : PySem.W.Frag} {mg : Str → Option Value} {base : Heap}
theorem ok_is_duration (T : Txt w K mg) : FnOk P w K mg base CX0 2 T.f_is_duration.f T.f_is_duration.fd ["value"] (sp_is_duration K) := by
  refine T.f_is_duration.F.ok sc_is_duration (fun vs H Q E h => ?_) (fun cdv A outer s H vs Q E hr h => ?_)
  · obtain ⟨v, rfl, _⟩ := h
    rfl
  obtain ⟨v, rfl, k⟩ := h
  refine ⟨(tRet (tCall (sp_is_between K) [] E0 (tCons (tVar 0) (tCons (tUn (rU fun i => .int (-i)) (tC (.int 9000))) (tCons (tC (.int 9000)) tNil))))),
    PSs.nox (pss_one (ps_ret (pe_call (ok_is_between T) (hr.mono (by decide)) (by rfl) T.f_is_between.g T.f_is_between.F.kp T.f_is_between.b .nil pass0 (pa_cons (pv 0) (pa_cons (pe_un un_neg (pe_glob (by rfl) T.c_MOST_DURATION ⟨_, rfl⟩)) (pa_cons (pe_glob (by rfl) T.c_MOST_DURATION ⟨_, rfl⟩) pa_nil)))))), ?_⟩
  walk_at "gg"
  exact ⟨_, _, _, rfl, k⟩
end
local macro_rules | `(tactic| walk_at "m") => `(tactic| first
  | with_reducible refine g_m1 ?_
  | with_reducible refine g_isS ?_
  | with_reducible refine g_lcStr ?_
  | with_reducible refine g_join ?_
  | with_reducible refine g_js ?_
  | with_reducible refine g_jsN ?_
  | with_reducible refine g_fmt ?_
  | with_reducible refine g_callLam ?_
  | with_reducible refine g_revT ?_)
local macro_rules | `(tactic| walk_at "m") => `(tactic| first
  | with_reducible refine g_sfld ?_
  | with_reducible refine g_fld ?_
  | with_reducible refine g_meth ?_
  | with_reducible refine g_make ?_
  | with_reducible refine g_prop ?_
  | with_reducible refine g_del ?_)

/-! ### any data -/
inductive DaV (K : PySem.W.Frag) (H : Hp) : V → PyData → Prop
  | non : DaV K H .non .none
  | bl (b : Bool) : DaV K H (.bl b) (.bool b)
  | int (i : Int) : DaV K H (.int i) (.int i)
  | str (x : Str) : DaV K H (.str x) (.str x)
  | lst {a : Addr} {xs : List V} {ds : List PyData} : H a = some (.lst xs) → DaV K H (.ref a) (.list ds)
  | tup {a : Addr} {xs : List V} {ds : List PyData} : SqT K H a xs → xs.length = ds.length → (∀ (i : Nat) (x : V) (d : PyData), xs[i]? = some x → ds[i]? = some d → DaV K H x d) → DaV K H (.ref a) (.tuple ds)
theorem DaV.ex {K : PySem.W.Frag} {H H' : Hp} {v : V} {d : PyData} (h : DaV K H v d) (e : Ex H H') : DaV K H' v d := by
  induction h with
  | non => exact .non
  | bl b => exact .bl b
  | int i => exact .int i
  | str x => exact .str x
  | lst q => exact .lst (e _ _ q)
  | tup q l _ ih => exact .tup (Evl.ex_t e q) l ih
theorem dav_of_pair {K : PySem.W.Frag} {H : Hp} {v : V} {p : Int × Int} (h : PV K H v p) : DaV K H v (.tuple [.int p.1, .int p.2]) := by
  obtain ⟨a, rfl, h⟩ := h
  refine .tup h rfl fun i x d hx hd => ?_
  match i, hx, hd with
  | 0, hx, hd => cases hx; cases hd; exact .int _
  | 1, hx, hd => cases hx; cases hd; exact .int _
  | i + 2, hx, hd => simp at hx
theorem dav_of_zone {K : PySem.W.Frag} {H : Hp} {v : V} {z : Zone} (h : ZV K H v z) : DaV K H v (.tuple [.int z.1, .tuple (z.2.map fun p => .tuple [.int p.1, .int p.2])]) := by
  obtain ⟨a, c, rfl, q, b, xs, rfl, hb, hp⟩ := h
  refine .tup q rfl fun i x d hx hd => ?_
  match i, hx, hd with
  | 0, hx, hd => cases hx; cases hd; exact .int _
  | 1, hx, hd =>
    cases hx; cases hd
    refine .tup hb (by rw [List.length_map]; exact Paired.length hp) fun j x d hx hd => ?_
    obtain ⟨p, hp', f⟩ := pd_get hp hx
    rw [List.getElem?_map, hp'] at hd
    cases hd
    exact dav_of_pair f
  | i + 2, hx, hd => simp at hx
def betD (d : PyData) (lo hi : Int) : Bool := match d with
  | .int v => decide (lo ≤ v ∧ v ≤ hi)
  | _ => false
def tupN (d : PyData) (n : Int) : Bool := match d with
  | .tuple ds => decide ((ds.length : Int) = n)
  | _ => false
def okCD (b e : Int) (d : PyData) : Bool := match d with
  | .tuple [.int i, .int o] => okC b e (i, o)
  | _ => false
def okGoD : Int → Int → List PyData → Bool
  | _, _, [] => true
  | b, e, d :: r => okCD b e d && (match d with
    | .tuple [.int i, .int o] => okGoD o (i + 12) r
    | _ => false)
def restGo (d : PyData) (r : List PyData) : Bool := match d with
  | .tuple [.int i, .int o] => okGoD o (i + 12) r
  | _ => false
theorem okGoD_cons (b e : Int) (d : PyData) (r : List PyData) : okGoD b e (d :: r) = (okCD b e d && restGo d r) := by
  unfold restGo
  rfl
def okZD (d : PyData) : Bool := match d with
  | .tuple [.int o, .tuple cs] => decide (-12 ≤ o ∧ o ≤ 12) && (decide (cs.length ≤ 8) && okGoD o (-1000) cs)
  | _ => false
theorem two_of {α : Type} {xs : List α} (h : (xs.length : Int) = 2) : ∃ a b, xs = [a, b] := by
  match xs, h with
  | [a, b], _ => exact ⟨a, b, rfl⟩
  | [], h => cases h
  | [_], h => cases h
  | _ :: _ :: _ :: _, h => simp only [List.length_cons] at h; omega
theorem bet_int {d : PyData} {lo hi : Int} (h : betD d lo hi = true) : ∃ i, d = .int i ∧ lo ≤ i ∧ i ≤ hi := by
  cases d with
  | int i => exact ⟨i, rfl, of_decide_eq_true h⟩
  | _ => cases h
theorem dav_int {K : PySem.W.Frag} {H : Hp} {v : V} {i : Int} (h : DaV K H v (.int i)) : v = .int i := by cases h; rfl
/-- a pair of data -/
theorem dav_two {K : PySem.W.Frag} {H : Hp} {v : V} {d : PyData} (h : DaV K H v d) (t : tupN d 2 = true) : ∃ a x y p q, v = .ref a ∧ d = .tuple [p, q] ∧ SqT K H a [x, y] ∧ DaV K H x p ∧ DaV K H y q := by
  cases h with
  | tup hq l ih =>
    obtain ⟨p, q, rfl⟩ := two_of (of_decide_eq_true t)
    obtain ⟨x, y, rfl⟩ := two_of (by rw [l]; exact of_decide_eq_true t)
    exact ⟨_, x, y, p, q, rfl, rfl, hq, ih 0 x p rfl rfl, ih 1 y q rfl rfl⟩
  | _ => cases t
theorem okCD_not {b e : Int} {d : PyData} (h : tupN d 2 = false) : okCD b e d = false := by
  unfold okCD
  split
  · cases h
  · rfl
theorem okCD_pair {b e : Int} {p q : PyData} : okCD b e (.tuple [p, q]) = (betD p e 1000 && (betD q (-15) 15 && (match q with
    | .int o => decide (1 ≤ (o - b).natAbs ∧ (o - b).natAbs ≤ 3)
    | _ => false))) := by
  cases p <;> cases q <;> first | rfl | simp [okCD, betD]
theorem okCD_of {b e : Int} {d : PyData} (h : okCD b e d = true) : ∃ i o, d = .tuple [.int i, .int o] ∧ okC b e (i, o) = true := by
  unfold okCD at h
  split at h
  · exact ⟨_, _, rfl, h⟩
  · cases h
theorem okZD_not {d : PyData} (h : tupN d 2 = false) : okZD d = false := by
  unfold okZD
  split
  · cases h
  · rfl
theorem pd_of {α β : Type} {F : α → β → Prop} : ∀ {xs : List α} {ys : List β}, xs.length = ys.length → (∀ (i : Nat) (x : α) (y : β), xs[i]? = some x → ys[i]? = some y → F x y) → Paired F xs ys
  | [], [], _, _ => .nil
  | x :: xs, y :: ys, l, h => .cons (h 0 x y rfl rfl) (pd_of (Nat.succ.inj l) fun i a b h1 h2 => h (i + 1) a b h1 h2)
/-! ### promises -/
def sp_is_between_d (K : PySem.W.Frag) : Sp := fun vs H Q _ => ∃ (v : V) (d : PyData) (lo hi : Int), vs = [v, .int lo, .int hi] ∧ DaV K H v d ∧ Q (.bl (betD d lo hi)) H
def sp_is_tuple_of_d (K : PySem.W.Frag) : Sp := fun vs H Q _ => ∃ (n : Int) (v : V) (d : PyData), vs = [.int n, v] ∧ DaV K H v d ∧ Q (.bl (tupN d n)) H
def sp_is_change_after_d (K : PySem.W.Frag) : Sp := fun vs H Q _ => ∃ (b e : Int) (v : V) (d : PyData), vs = [.int b, .int e, v] ∧ DaV K H v d ∧ Q (.bl (okCD b e d)) H
def sp_are_changes_after_d (K : PySem.W.Frag) : Sp := fun vs H Q _ => ∃ (o : Int) (a : Addr) (xs : List V) (ds : List PyData), vs = [.int o, .ref a] ∧ SqT K H a xs ∧ Paired (DaV K H) xs ds ∧ Q (.bl (okGoD o (-1000) ds)) H
def sp_is_zone_d (K : PySem.W.Frag) : Sp := fun vs H Q _ => ∃ (v : V) (d : PyData), vs = [v] ∧ DaV K H v d ∧ Q (.bl (okZD d)) H
section
variable {P : Program} {w : World} {K : PySem.W.Frag} {mg : Str → Option Value} {base : Heap}
theorem ok_is_between_d (T : Txt w K mg) : FnOk P w K mg base CX0 1 T.f_is_between.f T.f_is_between.fd ["value", "low", "high"] (sp_is_between_d K) := by
  refine T.f_is_between.F.ok sc_is_between (fun vs H Q E h => ?_) (fun cdv A outer s H vs Q E hr h => ?_)
  · obtain ⟨v, d, lo, hi, rfl, _⟩ := h
    rfl
  obtain ⟨v, d, lo, hi, rfl, hv, k⟩ := h
  refine ⟨(tSeq (tIfS (tOr (tNot (tB (tCB (rIsi K) (tCons (tVar 0) (tCons (tC (.ty "int")) tNil))))) (tB (tCB (rIsi K) (tCons (tVar 0) (tCons (tC (.ty "bool")) tNil))))) (tRet (tC (.bl false))) tNext) (tRet (tChain (rI0 fun i j => .bl (decide (i ≤ j))) (rI0 fun i j => .bl (decide (i ≤ j))) (tVar 1) (tVar 0) (tVar 2)))),
    PSs.nox (pss_cons (ps_if (PW.pt (pw_or (pt_not (pt_val (pe_callB call_isi (by rfl) T.z_isinstance (by decide +kernel) (pa_cons (pv 0) (pa_cons (pe_bltn (by rfl) T.z_int (by decide +kernel) rfl) pa_nil))))) (pw_or1 (pt_val (pe_callB call_isi (by rfl) T.z_isinstance (by decide +kernel) (pa_cons (pv 0) (pa_cons (pe_bltn (by rfl) T.z_bool (by decide +kernel) rfl) pa_nil))))))) (pss_one (ps_ret pe_bl)) pss_nil) (pss_one (ps_ret (pe_chain op_le op_le (pv 1) (pv 0) (pv 2))))), ?_⟩
  walk_at "gg"
  cases hv with
  | non =>
    refine g_isi ty_non (by decide +kernel : kitB "NoneType" "int" = some false) ?_
    walk_at "gg"
    exact k
  | bl b =>
    refine g_isi ty_bl (by decide +kernel : kitB "bool" "int" = some true) ?_
    walk_at "gg"
    refine g_isi ty_bl (by decide +kernel : kitB "bool" "bool" = some true) ?_
    walk_at "gg"
    exact k
  | int i =>
    refine g_isi ty_int (by decide +kernel : kitB "int" "int" = some true) ?_
    walk_at "gg"
    refine g_isi ty_int (by decide +kernel : kitB "int" "bool" = some false) ?_
    walk_at "gg"
    have k : Q (.bl (decide (lo ≤ i ∧ i ≤ hi))) H := k
    refine if_d (fun c => ?_) (fun c => ?_)
    · walk_at "gg"
      rw [show decide (i ≤ hi) = decide (lo ≤ i ∧ i ≤ hi) from decide_eq_decide.mpr ⟨fun h => ⟨c, h⟩, fun h => h.2⟩]
      exact k
    · rw [decide_eq_false (fun h => c h.1)] at k
      exact k
  | str x =>
    refine g_isi ty_str (by decide +kernel : kitB "str" "int" = some false) ?_
    walk_at "gg"
    exact k
  | lst q =>
    refine g_isi (ty_lst q) (by decide +kernel : kitB "list" "int" = some false) ?_
    walk_at "gg"
    exact k
  | tup q l ih =>
    refine g_isi (ty_tup q) (by decide +kernel : kitB "tuple" "int" = some false) ?_
    walk_at "gg"
    exact k
theorem ok_is_tuple_of_d (T : Txt w K mg) : FnOk P w K mg base CX0 1 T.f_is_tuple_of.f T.f_is_tuple_of.fd ["many", "value"] (sp_is_tuple_of_d K) := by
  refine T.f_is_tuple_of.F.ok sc_is_tuple_of (fun vs H Q E h => ?_) (fun cdv A outer s H vs Q E hr h => ?_)
  · obtain ⟨n, v, d, rfl, _⟩ := h
    rfl
  obtain ⟨n, v, d, rfl, hv, k⟩ := h
  refine ⟨(tRet (tAndV (tCB (rIsi K) (tCons (tVar 1) (tCons (tC (.ty "tuple")) tNil))) (tOp rEq (tCB (Evl.rLenS K) (tCons (tVar 1) tNil)) (tVar 0)))),
    PSs.nox (pss_one (ps_ret (pe_and (pe_callB call_isi (by rfl) T.z_isinstance (by decide +kernel) (pa_cons (pv 1) (pa_cons (pe_bltn (by rfl) T.z_tuple (by decide +kernel) rfl) pa_nil))) (pe_one (pe_cmpR op_eq (pe_callB call_len_seq (by rfl) T.z_len (by decide +kernel) (pa_cons (pv 1) pa_nil)) (pv 0) (nomark _)))))), ?_⟩
  walk_at "gg"
  cases hv with
  | non =>
    refine g_isi ty_non (by decide +kernel : kitB "NoneType" "tuple" = some false) ?_
    walk_at "gg"
    exact k
  | bl b =>
    refine g_isi ty_bl (by decide +kernel : kitB "bool" "tuple" = some false) ?_
    walk_at "gg"
    exact k
  | int i =>
    refine g_isi ty_int (by decide +kernel : kitB "int" "tuple" = some false) ?_
    walk_at "gg"
    exact k
  | str x =>
    refine g_isi ty_str (by decide +kernel : kitB "str" "tuple" = some false) ?_
    walk_at "gg"
    exact k
  | lst q =>
    refine g_isi (ty_lst q) (by decide +kernel : kitB "list" "tuple" = some false) ?_
    walk_at "gg"
    exact k
  | tup q l ih =>
    refine g_isi (ty_tup q) (by decide +kernel : kitB "tuple" "tuple" = some true) ?_
    walk_at "gg"
    refine g_lenT q ?_
    walk_at "gg"
    rw [l]
    exact k
theorem ok_is_change_after_d (T : Txt w K mg) : FnOk P w K mg base CX0 2 T.f_is_change_after.f T.f_is_change_after.fd ["before", "earliest", "value"] (sp_is_change_after_d K) := by
  refine T.f_is_change_after.F.ok sc_is_change_after (fun vs H Q E h => ?_) (fun cdv A outer s H vs Q E hr h => ?_)
  · obtain ⟨b, e, v, d, rfl, _⟩ := h
    rfl
  obtain ⟨b, e, v, d, rfl, hv, k⟩ := h
  refine ⟨(tSeq (tIfS (tNot (tB (tCall (sp_is_tuple_of_d K) [] E0 (tCons (tC (.int 2)) (tCons (tVar 2) tNil))))) (tRet (tC (.bl false))) tNext) (tSeq (tAsg (tVar 2) (gTup K 2 (gCons (gName 3) (gCons (gName 4) gNil)))) (tSeq (tIfS (tNot (tB (tCall (sp_is_between_d K) [] E0 (tCons (tVar 3) (tCons (tVar 1) (tCons (tC (.int 1000)) tNil)))))) (tRet (tC (.bl false))) tNext) (tSeq (tIfS (tNot (tB (tCall (sp_is_between_d K) [] E0 (tCons (tVar 4) (tCons (tUn (rU fun i => .int (-i)) (tC (.int 15))) (tCons (tC (.int 15)) tNil)))))) (tRet (tC (.bl false))) tNext) (tRet (tChain (rI0 fun i j => .bl (decide (i ≤ j))) (rI0 fun i j => .bl (decide (i ≤ j))) (tC (.int 1)) (tCB r_abs (tCons (tOp (rI0 fun i j => .int (i - j)) (tVar 4) (tVar 0)) tNil)) (tC (.int 3)))))))),
    PSs.nox (pss_cons (ps_if (pt_not (pt_val (pe_call (ok_is_tuple_of_d T) (hr.mono (by decide)) (by rfl) T.f_is_tuple_of.g T.f_is_tuple_of.F.kp T.f_is_tuple_of.b .nil pass0 (pa_cons pe_int (pa_cons (pv 2) pa_nil))))) (pss_one (ps_ret pe_bl)) pss_nil) (pss_cons (ps_asg (pv 2) (pg_tup rfl (pgs_cons (pg_name (i := 3) sc_is_change_after.nd rfl (Or.inl rfl)) (pgs_cons (pg_name (i := 4) sc_is_change_after.nd rfl (Or.inl rfl)) pgs_nil)))) (pss_cons (ps_if (pt_not (pt_val (pe_call (ok_is_between_d T) (hr.mono (by decide)) (by rfl) T.f_is_between.g T.f_is_between.F.kp T.f_is_between.b .nil pass0 (pa_cons (pv 3) (pa_cons (pv 1) (pa_cons (pe_glob (by rfl) T.c_MOST_CHANGE_INSTANT ⟨_, rfl⟩) pa_nil)))))) (pss_one (ps_ret pe_bl)) pss_nil) (pss_cons (ps_if (pt_not (pt_val (pe_call (ok_is_between_d T) (hr.mono (by decide)) (by rfl) T.f_is_between.g T.f_is_between.F.kp T.f_is_between.b .nil pass0 (pa_cons (pv 4) (pa_cons (pe_un un_neg (pe_glob (by rfl) T.c_MOST_LATER_OFFSET ⟨_, rfl⟩)) (pa_cons (pe_glob (by rfl) T.c_MOST_LATER_OFFSET ⟨_, rfl⟩) pa_nil)))))) (pss_one (ps_ret pe_bl)) pss_nil) (pss_one (ps_ret (pe_chain op_le op_le pe_int (pe_callB call_abs (by rfl) T.z_abs (by decide +kernel) (pa_cons (pe_op op_sub (pv 4) (pv 0)) pa_nil)) (pe_glob (by rfl) T.c_MOST_STEP ⟨_, rfl⟩)))))))), ?_⟩
  walk_at "gg"
  refine ⟨2, v, d, rfl, hv, ?_⟩
  cases c0 : tupN d 2 with
  | false =>
    rw [okCD_not c0] at k
    walk_at "gg"
    exact k
  | true =>
    obtain ⟨a, x, y, p, q, rfl, rfl, ha, hx, hy⟩ := dav_two hv c0
    rw [okCD_pair] at k
    walk_at "gg"
    refine ⟨x, p, _, _, rfl, hx, ?_⟩
    cases c1 : betD p e 1000 with
    | false =>
      rw [c1] at k
      walk_at "gg"
      exact k
    | true =>
      rw [c1] at k
      walk_at "gg"
      refine ⟨y, q, _, _, rfl, hy, ?_⟩
      cases c2 : betD q (-15) 15 with
      | false =>
        rw [c2] at k
        walk_at "gg"
        exact k
      | true =>
        rw [c2] at k
        obtain ⟨o, rfl, _, _⟩ := bet_int c2
        cases dav_int hy
        walk_at "gg"
        have k : Q (.bl (decide (1 ≤ (o - b).natAbs ∧ (o - b).natAbs ≤ 3))) H := k
        refine if_d (fun c3 => ?_) (fun c3 => ?_)
        · walk_at "gg"
          rw [show decide ((if o - b < 0 then -(o - b) else o - b) ≤ 3) = decide (1 ≤ (o - b).natAbs ∧ (o - b).natAbs ≤ 3) from decide_eq_decide.mpr (by split at c3 <;> split <;> omega)]
          exact k
        · rw [show (decide (1 ≤ (o - b).natAbs ∧ (o - b).natAbs ≤ 3)) = false from decide_eq_false (by split at c3 <;> omega)] at k
          exact k
theorem ok_are_changes_after_d (T : Txt w K mg) : FnOk P w K mg base CX0 3 T.f_are_changes_after.f T.f_are_changes_after.fd ["offset", "changes"] (sp_are_changes_after_d K) := by
  refine T.f_are_changes_after.F.ok sc_are_changes_after (fun vs H Q E h => ?_) (fun cdv A outer s H vs Q E hr h => ?_)
  · obtain ⟨o, a, xs, ds, rfl, _⟩ := h
    rfl
  obtain ⟨o, a, xs, ds, rfl, ha, hp, k⟩ := h
  refine ⟨(tSeq (tAsg (tUn (rU fun i => .int (-i)) (tC (.int 1000))) (gName 2)) (tSeq (tFor (iTup K (tVar 1)) (gName 3) (tSeq (tIfS (tNot (tB (tCall (sp_is_change_after_d K) [] E0 (tCons (tVar 0) (tCons (tVar 2) (tCons (tVar 3) tNil)))))) (tRet (tC (.bl false))) tNext) (tSeq (tAsg (tVar 3) (gTup K 2 (gCons (gName 4) (gCons (gName 0) gNil)))) (tAsg (tOp (rI0 fun i j => .int (i + j)) (tVar 4) (tC (.int 12))) (gName 2))))) (tRet (tC (.bl true))))),
    PSs.nox (pss_cons (ps_set (i := 2) sc_are_changes_after.nd rfl (Or.inl rfl) (pe_un un_neg (pe_glob (by rfl) T.c_MOST_CHANGE_INSTANT ⟨_, rfl⟩))) (pss_cons (ps_for PassesOwn.never rfl (pi_tup (pv 1)) (pg_name (i := 3) sc_are_changes_after.nd rfl (Or.inl rfl)) (pss_cons (ps_if (pt_not (pt_val (pe_call (ok_is_change_after_d T) (hr.mono (by decide)) (by rfl) T.f_is_change_after.g T.f_is_change_after.F.kp T.f_is_change_after.b .nil pass0 (pa_cons (pv 0) (pa_cons (pv 2) (pa_cons (pv 3) pa_nil)))))) (pss_one (ps_ret pe_bl)) pss_nil) (pss_cons (ps_asg (pv 3) (pg_tup rfl (pgs_cons (pg_name (i := 4) sc_are_changes_after.nd rfl (Or.inl rfl)) (pgs_cons (pg_name (i := 0) sc_are_changes_after.nd rfl (Or.inl rfl)) pgs_nil)))) (pss_one (ps_set (i := 2) sc_are_changes_after.nd rfl (Or.inl rfl) (pe_op op_add (pv 4) (pe_glob (by rfl) T.c_LEAST_DISTANCE ⟨_, rfl⟩))))))) (pss_one (ps_ret pe_bl)))), ?_⟩
  walk_at "gg"
  refine g_forT (F := DaV K) ha hp (fun l σ' H' => H' = H ∧ ∃ o' e' c0 i0, okGoD o' e' l = okGoD o (-1000) ds ∧ σ' = [some (.int o'), some (.ref a), some (.int e'), c0, i0])
    ⟨rfl, _, _, _, _, rfl, rfl⟩ (fun _ _ _ q => by rw [q.1]; exact ⟨ha, fun _ _ h => h⟩) ?_ ?_
  · rintro d l x σ' H' ⟨rfl, o', e', c0, i0, q, rfl⟩ hv
    rw [okGoD_cons] at q
    walk_at "gg"
    refine ⟨_, _, _, d, rfl, hv, ?_⟩
    walk_at "gg"
    cases c1 : okCD o' e' d with
    | true =>
      rw [c1] at q
      obtain ⟨i, oo, rfl, _⟩ := okCD_of c1
      obtain ⟨a2, x2, y2, p2, q2, rfl, e2, ha2, hx2, hy2⟩ := dav_two hv rfl
      cases e2
      cases dav_int hx2
      cases dav_int hy2
      walk_at "gg"
      exact ⟨rfl, _, _, _, _, q, rfl⟩
    | false =>
      rw [c1] at q
      walk_at "gg"
      rw [← q] at k
      exact k
  · rintro σ' H' ⟨rfl, o', e', c0, i0, q, rfl⟩
    walk_at "gg"
    rw [← q] at k
    exact k
theorem ok_is_zone_d (T : Txt w K mg) : FnOk P w K mg base CX0 4 T.f_is_zone.f T.f_is_zone.fd ["value"] (sp_is_zone_d K) := by
  refine T.f_is_zone.F.ok sc_is_zone (fun vs H Q E h => ?_) (fun cdv A outer s H vs Q E hr h => ?_)
  · obtain ⟨v, d, rfl, _⟩ := h
    rfl
  obtain ⟨v, d, rfl, hv, k⟩ := h
  refine ⟨(tSeq (tIfS (tNot (tB (tCall (sp_is_tuple_of_d K) [] E0 (tCons (tC (.int 2)) (tCons (tVar 0) tNil))))) (tRet (tC (.bl false))) tNext) (tSeq (tAsg (tVar 0) (gTup K 2 (gCons (gName 1) (gCons (gName 2) gNil)))) (tSeq (tIfS (tNot (tB (tCall (sp_is_between_d K) [] E0 (tCons (tVar 1) (tCons (tUn (rU fun i => .int (-i)) (tC (.int 12))) (tCons (tC (.int 12)) tNil)))))) (tRet (tC (.bl false))) tNext) (tSeq (tIfS (tOr (tNot (tB (tCB (rIsi K) (tCons (tVar 2) (tCons (tC (.ty "tuple")) tNil))))) (tTest (tOp (rI0 fun i j => .bl (decide (j < i))) (tCB (Evl.rLenS K) (tCons (tVar 2) tNil)) (tC (.int 8))))) (tRet (tC (.bl false))) tNext) (tRet (tCall (sp_are_changes_after_d K) [] E0 (tCons (tVar 1) (tCons (tVar 2) tNil)))))))),
    PSs.nox (pss_cons (ps_if (pt_not (pt_val (pe_call (ok_is_tuple_of_d T) (hr.mono (by decide)) (by rfl) T.f_is_tuple_of.g T.f_is_tuple_of.F.kp T.f_is_tuple_of.b .nil pass0 (pa_cons pe_int (pa_cons (pv 0) pa_nil))))) (pss_one (ps_ret pe_bl)) pss_nil) (pss_cons (ps_asg (pv 0) (pg_tup rfl (pgs_cons (pg_name (i := 1) sc_is_zone.nd rfl (Or.inl rfl)) (pgs_cons (pg_name (i := 2) sc_is_zone.nd rfl (Or.inl rfl)) pgs_nil)))) (pss_cons (ps_if (pt_not (pt_val (pe_call (ok_is_between_d T) (hr.mono (by decide)) (by rfl) T.f_is_between.g T.f_is_between.F.kp T.f_is_between.b .nil pass0 (pa_cons (pv 1) (pa_cons (pe_un un_neg (pe_glob (by rfl) T.c_MOST_FIRST_OFFSET ⟨_, rfl⟩)) (pa_cons (pe_glob (by rfl) T.c_MOST_FIRST_OFFSET ⟨_, rfl⟩) pa_nil)))))) (pss_one (ps_ret pe_bl)) pss_nil) (pss_cons (ps_if (PW.pt (pw_or (pt_not (pt_val (pe_callB call_isi (by rfl) T.z_isinstance (by decide +kernel) (pa_cons (pv 2) (pa_cons (pe_bltn (by rfl) T.z_tuple (by decide +kernel) rfl) pa_nil))))) (pw_or1 (pt_cmpR op_gt (pe_callB call_len_seq (by rfl) T.z_len (by decide +kernel) (pa_cons (pv 2) pa_nil)) (pe_glob (by rfl) T.c_MOST_CHANGES ⟨_, rfl⟩) (nomark _))))) (pss_one (ps_ret pe_bl)) pss_nil) (pss_one (ps_ret (pe_call (ok_are_changes_after_d T) (hr.mono (by decide)) (by rfl) T.f_are_changes_after.g T.f_are_changes_after.F.kp T.f_are_changes_after.b .nil pass0 (pa_cons (pv 1) (pa_cons (pv 2) pa_nil))))))))), ?_⟩
  walk_at "gg"
  refine ⟨2, v, d, rfl, hv, ?_⟩
  cases c0 : tupN d 2 with
  | false =>
    rw [okZD_not c0] at k
    walk_at "gg"
    exact k
  | true =>
    obtain ⟨a, x, y, p, q, rfl, rfl, ha, hx, hy⟩ := dav_two hv c0
    walk_at "gg"
    refine ⟨x, p, _, _, rfl, hx, ?_⟩
    cases c1 : betD p (-12) 12 with
    | false =>
      have e : okZD (.tuple [p, q]) = false := by
        unfold okZD
        split
        next o cs h =>
          injection h with h
          injection h with h1 h2
          subst h1
          rw [show decide (-12 ≤ o ∧ o ≤ 12) = false from c1]
          rfl
        · rfl
      rw [e] at k
      walk_at "gg"
      exact k
    | true =>
      obtain ⟨o, rfl, _, _⟩ := bet_int c1
      cases dav_int hx
      walk_at "gg"
      cases hy with
      | tup hb l ih =>
        rename_i b ys ds
        refine g_isi (ty_tup hb) (by decide +kernel : kitB "tuple" "tuple" = some true) ?_
        walk_at "gg"
        refine g_lenT hb ?_
        walk_at "gg"
        have k : Q (.bl (decide (-12 ≤ o ∧ o ≤ 12) && (decide (ds.length ≤ 8) && okGoD o (-1000) ds))) H := k
        rw [show decide (-12 ≤ o ∧ o ≤ 12) = true from c1, Bool.true_and] at k
        rw [l]
        refine if_d (fun c2 => ?_) (fun c2 => ?_)
        · walk_at "gg"
          rw [decide_eq_false (by omega : ¬ ds.length ≤ 8)] at k
          exact k
        · walk_at "gg"
          rw [decide_eq_true (by omega : ds.length ≤ 8)] at k
          exact ⟨_, _, _, ds, rfl, hb, pd_of l ih, k⟩
      | non =>
        refine g_isi ty_non (by decide +kernel : kitB "NoneType" "tuple" = some false) ?_
        walk_at "gg"
        exact k
      | bl b =>
        refine g_isi ty_bl (by decide +kernel : kitB "bool" "tuple" = some false) ?_
        walk_at "gg"
        exact k
      | int i =>
        refine g_isi ty_int (by decide +kernel : kitB "int" "tuple" = some false) ?_
        walk_at "gg"
        exact k
      | str x =>
        refine g_isi ty_str (by decide +kernel : kitB "str" "tuple" = some false) ?_
        walk_at "gg"
        exact k
      | lst q =>
        refine g_isi (ty_lst q) (by decide +kernel : kitB "list" "tuple" = some false) ?_
        walk_at "gg"
        exact k
end
local macro_rules | `(tactic| walk_at "m") => `(tactic| first
  | with_reducible refine g_m1 ?_
  | with_reducible refine g_isS ?_
  | with_reducible refine g_lcStr ?_
  | with_reducible refine g_join ?_
  | with_reducible refine g_js ?_
  | with_reducible refine g_jsN ?_
  | with_reducible refine g_fmt ?_
  | with_reducible refine g_callLam ?_
  | with_reducible refine g_revT ?_)
local macro_rules | `(tactic| walk_at "m") => `(tactic| first
  | with_reducible refine g_sfld ?_
  | with_reducible refine g_fld ?_
  | with_reducible refine g_meth ?_
  | with_reducible refine g_make ?_
  | with_reducible refine g_prop ?_
  | with_reducible refine g_del ?_)

/-! ### mirrors -/
def optI : Option Int → V
  | none => .non
  | some i => .int i
def optD : Option Int → PyData
  | none => .none
  | some i => .int i
def chV (w : Str) : List V := (Txt.split w ":").map fun x => optI (intOf x)
def chD (w : Str) : PyData := .tuple ((Txt.split w ":").map fun x => optD (intOf x))
def readD (t : Str) : PyData := match Txt.split t " " with
  | [] => .none
  | f :: r => .tuple [optD (intOf f), .tuple (r.map chD)]
def encP (p : Int × Int) : PyData := .tuple [.int p.1, .int p.2]
def encZ (z : Zone) : PyData := .tuple [.int z.1, .tuple (z.2.map encP)]
def chT (p : Int × Int) : Str := (toString p.1 : Str) ++ ":" ++ (toString p.2 : Str)
def partsZ (z : Zone) : List Str := (toString z.1 : Str) :: z.2.map chT
def textZ (z : Zone) : Str := Txt.join " " (partsZ z)
theorem dav_opt {K : PySem.W.Frag} {H : Hp} (o : Option Int) : DaV K H (optI o) (optD o) := by
  cases o with
  | none => exact .non
  | some i => exact .int i
/-- a tuple of what the parts of a word write -/
def ChV (K : PySem.W.Frag) (H : Hp) (v : V) (w : Str) : Prop := ∃ a, v = .ref a ∧ SqT K H a (chV w)
theorem ChV.tr {K : PySem.W.Frag} {H H' : Hp} {v : V} {w : Str} (e : TrT K H H') (h : ChV K H v w) : ChV K H' v w := by
  obtain ⟨a, q, h⟩ := h
  exact ⟨a, q, e _ _ h⟩
theorem ChV.dav {K : PySem.W.Frag} {H : Hp} {v : V} {w : Str} (h : ChV K H v w) : DaV K H v (chD w) := by
  obtain ⟨a, rfl, h⟩ := h
  refine .tup h (by simp [chV]) fun i x d hx hd => ?_
  unfold chV at hx
  rw [List.getElem?_map] at hx hd
  cases e : (Txt.split w ":")[i]? with
  | none => rw [e] at hx; cases hx
  | some y =>
    rw [e] at hx hd
    cases hx
    cases hd
    exact dav_opt _
theorem spl_ne (S : List Nat) : ∀ (l : List Nat) (n : Nat) (acc : List Nat), TL.spl S n acc l ≠ []
  | [], n, acc => by rw [TL.spl_nil]; simp
  | c :: r, 0, acc => by
    by_cases h : TL.pre S (c :: r) = true
    · rw [TL.spl_hit h]; simp
    · rw [TL.spl_miss (by simpa using h)]
      exact spl_ne S r 0 _
  | c :: r, n + 1, acc => spl_ne S r n acc
theorem split_ne (t : Str) : Txt.split t " " ≠ [] := fun e => by
  have q := TL.split_spl t " " (by decide +kernel) (TL.kind_ok (by decide +kernel))
  rw [e] at q
  exact spl_ne _ _ _ _ q.symm
theorem chV_of {w : Str} {p : Int × Int} (h : chD w = encP p) : chV w = [.int p.1, .int p.2] := by
  unfold chD encP at h
  injection h with h
  have key : ∀ (l : List Str) (ds : List PyData), l.map (fun x => optD (intOf x)) = ds → ds = [.int p.1, .int p.2] → l.map (fun x => optI (intOf x)) = [.int p.1, .int p.2] := by
    intro l ds e e2
    subst e2
    match l, e with
    | [a, b], e =>
      have e1 : optD (intOf a) = .int p.1 := by injection e
      have e2 : optD (intOf b) = .int p.2 := by injection e with _ e; injection e
      have o : ∀ {o : Option Int} {i : Int}, optD o = .int i → optI o = .int i := fun {o i} h => by
        cases o with
        | none => cases h
        | some j => injection h with h; rw [h]; rfl
      show [optI (intOf a), optI (intOf b)] = _
      rw [o e1, o e2]
    | [], e => cases e
    | [_], e => injection e with _ e; cases e
    | _ :: _ :: _ :: _, e => injection e with _ e; injection e with _ e; cases e
  exact key _ _ h rfl
theorem dav_pair {K : PySem.W.Frag} {H : Hp} {v : V} {p : Int × Int} (h : DaV K H v (encP p)) : PV K H v p := by
  obtain ⟨a, x, y, d1, d2, rfl, e, q, h1, h2⟩ := dav_two h rfl
  unfold encP at e
  injection e with e
  injection e with e1 e
  injection e with e2 _
  subst e1 e2
  cases dav_int h1
  cases dav_int h2
  exact ⟨a, rfl, q⟩
theorem dav_zone {K : PySem.W.Frag} {H : Hp} {v : V} {z : Zone} (h : DaV K H v (encZ z)) : ZV K H v z := by
  obtain ⟨a, x, y, d1, d2, rfl, e, q, h1, h2⟩ := dav_two h rfl
  unfold encZ at e
  injection e with e
  injection e with e1 e
  injection e with e2 _
  subst e1 e2
  cases dav_int h1
  refine ⟨a, y, rfl, q, ?_⟩
  cases h2 with
  | tup hb l ih =>
    refine ⟨_, _, rfl, hb, pd_of (by rw [l, List.length_map]) fun i x p hx hp => ?_⟩
    exact dav_pair (ih i x _ hx (by rw [List.getElem?_map, hp]; rfl))
structure BoZ (z : Zone) : Prop where
  o1 : -12 ≤ z.1
  o2 : z.1 ≤ 12
  l : z.2.length ≤ 8
  c : ∀ p ∈ z.2, -1000 ≤ p.1 ∧ p.1 ≤ 1000 ∧ -15 ≤ p.2 ∧ p.2 ≤ 15
theorem okGo_bo : ∀ {b e : Int} {cs : List (Int × Int)}, okGo b e cs = true → -1000 ≤ e → ∀ p ∈ cs, -1000 ≤ p.1 ∧ p.1 ≤ 1000 ∧ -15 ≤ p.2 ∧ p.2 ≤ 15
  | _, _, [], _, _, _, h => nomatch h
  | b, e, p :: r, h, he, q, hq => by
    rw [okGo_cons, Bool.and_eq_true] at h
    have h1 := h.1
    unfold okC at h1
    simp only [Bool.and_eq_true, decide_eq_true_eq] at h1
    rcases List.mem_cons.mp hq with rfl | hq
    · omega
    · exact okGo_bo h.2 (by omega) q hq
theorem BoZ.of {z : Zone} (h : okZ z = true) : BoZ z := by
  unfold okZ at h
  simp only [Bool.and_eq_true, decide_eq_true_eq] at h
  exact ⟨h.1.1, h.1.2, h.2.1, okGo_bo h.2.2 (by omega)⟩
theorem chT_len {p : Int × Int} (h : -1000 ≤ p.1 ∧ p.1 ≤ 1000 ∧ -15 ≤ p.2 ∧ p.2 ≤ 15) : (chT p).length ≤ 21 := by
  unfold chT
  rw [len_app, len_app]
  have h1 := str_len (i := p.1) (by omega)
  have h2 := str_len (i := p.2) (by omega)
  have h3 : (":" : Str).length = 1 := by decide +kernel
  omega
theorem sum_le {n : Nat} : ∀ {l : List Nat}, (∀ x ∈ l, x ≤ n) → l.sum ≤ l.length * n
  | [], _ => by simp
  | a :: r, h => by
    have ih := sum_le (l := r) fun x hx => h x (List.mem_cons_of_mem _ hx)
    have := h a List.mem_cons_self
    rw [List.sum_cons, List.length_cons, Nat.succ_mul]
    omega
theorem parts_len {z : Zone} (h : BoZ z) : ∀ p ∈ partsZ z, p.length ≤ 21 := fun p hp => by
  rcases List.mem_cons.mp hp with e | e
  · rw [e]
    have := str_len (i := z.1) (by have := h.o1; have := h.o2; omega)
    omega
  · obtain ⟨q, hq, rfl⟩ := List.mem_map.mp e
    exact chT_len (h.c q hq)
theorem join_ok {z : Zone} (h : BoZ z) : ((partsZ z).map (·.length)).sum + (partsZ z).length * (" " : Str).length ≤ 16777216 := by
  have e1 : (" " : Str).length = 1 := by decide +kernel
  have l9 : (partsZ z).length ≤ 9 := by
    unfold partsZ
    rw [List.length_cons, List.length_map]
    have := h.l
    omega
  have q := sum_le (n := 21) (l := (partsZ z).map (·.length)) fun x hx => by
    obtain ⟨p, hp, rfl⟩ := List.mem_map.mp hx
    exact parts_len h p hp
  rw [List.length_map] at q
  rw [e1]
  have : (partsZ z).length * 21 ≤ 9 * 21 := Nat.mul_le_mul_right _ l9
  omega
/-! ### promises -/
def sp_integer_of (K : PySem.W.Frag) : Sp := fun vs H Q _ => ∃ w : Str, vs = [.str w] ∧ w.length ≤ 100000 ∧ ∀ H', Ex H H' → Q (optI (intOf w)) H'
def sp_change_of (K : PySem.W.Frag) : Sp := fun vs H Q _ => ∃ w : Str, vs = [.str w] ∧ w.length ≤ 50000 ∧ ∀ p H', H p = none → Ex H H' → H' p = some (.tup (chV w)) → Q (.ref p) H'
def sp_check_text (K : PySem.W.Frag) : Sp := fun vs H Q _ => ∃ t : Str, vs = [.str t] ∧ Q .non H
def isStrD (d : PyData) : Bool := match d with
  | .str _ => true
  | _ => false
def sp_check_text_x {w : World} {K : PySem.W.Frag} {mg : Str → Option Value} (T : Txt w K mg) : Sp := fun vs H Q E => ∃ (v : V) (d : PyData), vs = [v] ∧ DaV K H v d ∧ (isStrD d = true → Q .non H) ∧ (isStrD d = false → E (.ref T.e_NotText) none H)
def sp_read_zone_x {w : World} {K : PySem.W.Frag} {mg : Str → Option Value} (T : Txt w K mg) : Sp := fun vs H Q E => ∃ (v : V) (d : PyData), vs = [v] ∧ DaV K H v d ∧ (isStrD d = false → E (.ref T.e_NotText) none H) ∧
  (isStrD d = true → ∃ t : Str, d = .str t ∧ t.length ≤ 1000 ∧ (okZD (readD t) = false → ∀ H', Ex H H' → E (.ref T.e_InvalidText) none H') ∧ (okZD (readD t) = true → ∀ zv H', Ex H H' → DaV K H' zv (readD t) → Q zv H'))
def sp_write_zone (K : PySem.W.Frag) : Sp := fun vs H Q _ => ∃ (zv : V) (z : Zone), vs = [zv] ∧ ZV K H zv z ∧ okZ z = true ∧ ∀ H', Ex H H' → Q (.str (textZ z)) H'
section
variable {P : Program} {w : World} {K : PySem.W.Frag} {mg : Str → Option Value} {base : Heap}
theorem ok_check_text (T : Txt w K mg) : FnOk P w K mg base CX0 1 T.f_check_text.f T.f_check_text.fd ["value"] (sp_check_text K) := by
  refine T.f_check_text.F.ok sc_check_text (fun vs H Q E h => ?_) (fun cdv A outer s H vs Q E hr h => ?_)
  · obtain ⟨t, rfl, _⟩ := h
    rfl
  obtain ⟨t, rfl, k⟩ := h
  refine ⟨(tIfS (tNot (tB (tCB (rIsi K) (tCons (tVar 0) (tCons (tC (.ty "str")) tNil))))) tNever tNext),
    PSs.nox (pss_one (ps_if (pt_not (pt_val (pe_callB call_isi (by rfl) T.z_isinstance (by decide +kernel) (pa_cons (pv 0) (pa_cons (pe_bltn (by rfl) T.z_str (by decide +kernel) rfl) pa_nil))))) (pss_one ps_never) pss_nil)), ?_⟩
  walk_at "gg"
  refine g_isi ty_str (by decide +kernel : kitB "str" "str" = some true) ?_
  walk_at "gg"
  exact k
theorem ok_check_text_x (T : Txt w K mg) : FnOk P w K mg base (L2.CX P w) 1 T.f_check_text.f T.f_check_text.fd ["value"] (sp_check_text_x T) := by
  refine T.f_check_text.F.ok sc_check_text (fun vs H Q E h => ?_) (fun cdv A outer s H vs Q E hr h => ?_)
  · obtain ⟨v, d, rfl, _⟩ := h
    rfl
  obtain ⟨v, d, rfl, hv, k1, k2⟩ := h
  refine ⟨(tIfS (tNot (tB (tCB (rIsi K) (tCons (tVar 0) (tCons (tC (.ty "str")) tNil))))) (fun _ σ H => E (.ref T.e_NotText) none H) tNext),
    (pss_one (ps_if (pt_not (pt_val (pe_callB call_isi (by rfl) T.z_isinstance (by decide +kernel) (pa_cons (pv 0) (pa_cons (pe_bltn (by rfl) T.z_str (by decide +kernel) rfl) pa_nil))))) (pss_one (ps_err rfl (takes_of rfl rfl rfl rfl) T.g_NotText T.x_NotText rfl)) pss_nil)), ?_⟩
  walk_at "gg"
  cases hv with
  | non =>
    refine g_isi ty_non (by decide +kernel : kitB "NoneType" "str" = some false) ?_
    walk_at "gg"
    exact k2 rfl
  | bl b =>
    refine g_isi ty_bl (by decide +kernel : kitB "bool" "str" = some false) ?_
    walk_at "gg"
    exact k2 rfl
  | int i =>
    refine g_isi ty_int (by decide +kernel : kitB "int" "str" = some false) ?_
    walk_at "gg"
    exact k2 rfl
  | str x =>
    refine g_isi ty_str (by decide +kernel : kitB "str" "str" = some true) ?_
    walk_at "gg"
    exact k1 rfl
  | lst q =>
    refine g_isi (ty_lst q) (by decide +kernel : kitB "list" "str" = some false) ?_
    walk_at "gg"
    exact k2 rfl
  | tup q l ih =>
    refine g_isi (ty_tup q) (by decide +kernel : kitB "tuple" "str" = some false) ?_
    walk_at "gg"
    exact k2 rfl
theorem ok_integer_of (T : Txt w K mg) : FnOk P w K mg base CX0 1 T.f_integer_of.f T.f_integer_of.fd ["word"] (sp_integer_of K) := by
  refine T.f_integer_of.F.ok sc_integer_of (fun vs H Q E h => ?_) (fun cdv A outer s H vs Q E hr h => ?_)
  · obtain ⟨t, rfl, _⟩ := h
    rfl
  obtain ⟨t, rfl, hl, k⟩ := h
  refine ⟨(tSeq (tAsg (tM1 rStrRemP (tVar 0) (tC (.str "-"))) (gName 1)) (tSeq (tIfS (tNot (tTest (tChain (rI0 fun i j => .bl (decide (i ≤ j))) (rI0 fun i j => .bl (decide (i ≤ j))) (tC (.int 1)) (tCB rLenStr (tCons (tVar 1) tNil)) (tC (.int 9))))) (tRet (tC .non)) tNext) (tSeq (tIfS (tNot (tB (tCB (rAll K) (tCons (tLc (iStr (tVar 1)) (gName 3) tYes (tOp rInSign (tVar 3) (tC (.str "0123456789"))) [3]) tNil)))) (tRet (tC .non)) tNext) (tSeq (tAsg (tCB rIntStr (tCons (tVar 0) tNil)) (gName 2)) (tRet (tIf (tTest (tOp rEq (tCB rStrInt (tCons (tVar 2) tNil)) (tVar 0))) (tVar 2) (tC .non))))))),
    PSs.nox (pss_cons (ps_set (i := 1) sc_integer_of.nd rfl (Or.inl rfl) (pe_m1 PySem.F.slot_str_removeprefix PySem.F.type_str_removeprefix mtRemP (pv 0) pe_str)) (pss_cons (ps_if (pt_not (pt_chain op_le op_le pe_int (pe_callB crLenStr (by rfl) T.z_len (by decide +kernel) (pa_cons (pv 1) pa_nil)) (pe_glob (by rfl) T.c_MOST_DIGITS ⟨_, rfl⟩))) (pss_one (ps_ret pe_non)) pss_nil) (pss_cons (ps_if (pt_not (pt_val (pe_callB (cr_all rfl) (by rfl) T.z_all (by decide +kernel) (pa_cons (pe_lc (own := [("sign", 3)]) rfl sc_integer_of.nd (pi_str (pv 1)) (blkOk_by (own := [("sign", 3)]) (N := ["word", "digits", "number", "sign"]) (sc := (defScope s_integer_of)) (by decide +kernel)) (fun _ _ _ _ _ => (pg_name (i := 3) sc_integer_of.nd rfl (Or.inl rfl))) (fun _ _ _ _ _ => pts_nil) (fun _ _ _ _ _ => (pe_cmpR opInSign (pv 3) (pe_glob (by rfl) T.c_DIGITS ⟨_, rfl⟩) (by rfl)))) pa_nil)))) (pss_one (ps_ret pe_non)) pss_nil) (pss_cons (ps_set (i := 2) sc_integer_of.nd rfl (Or.inl rfl) (pe_callTy crIntStr (by rfl) T.z_int (by decide +kernel) (pa_cons (pv 0) pa_nil))) (pss_one (ps_ret (pe_ifExp (pt_cmpR op_eq (pe_callTy crStrInt (by rfl) T.z_str (by decide +kernel) (pa_cons (pv 2) pa_nil)) (pv 0) (nomark _)) (pv 2) pe_non))))))), ?_⟩
  have hs : t.length ≤ sizeLine := Nat.le_trans hl (by decide)
  walk_at "gg"
  refine ⟨_, _, rfl, rfl, hs, ?_⟩
  walk_at "gg"
  have et := tl_remP t
  generalize hd : Txt.removeprefix t "-" = d at et ⊢
  have ld : d.length ≤ 100000 := by
    rw [TL.len_tl, et]
    have q : (unM (TL.tl t)).length ≤ (TL.tl t).length := by
      unfold unM
      split
      next r e => rw [e]; simp
      · exact Nat.le_refl _
    rw [← TL.len_tl t] at q
    omega
  have k0 : ∀ H', Ex H H' → intOf t = none → Q .non H' := fun H' e z => by
    have q := k H' e
    rw [z] at q
    exact q
  unfold intOf at k k0
  rw [← et] at k k0
  have ll : d.length = (TL.tl d).length := TL.len_tl d
  refine ⟨_, rfl, Nat.le_trans ld (by decide), ?_⟩
  walk_at "gg"
  have bad : digOk (TL.tl d) = false → ∀ H', Ex H H' → Q .non H' := fun z H' e => k0 H' e (by rw [z]; rfl)
  refine if_d (fun c1 => ?_) (fun c1 => ?_)
  rotate_left
  · walk_at "gg"
    refine bad ?_ _ (Evl.Ex.refl _)
    unfold digOk
    rw [decide_eq_false (by omega), Bool.false_and]
  walk_at "gg"
  refine if_nd (fun c2 => ?_) (fun c2 => ?_)
  · walk_at "gg"
    refine bad ?_ _ (Evl.Ex.refl _)
    unfold digOk
    rw [decide_eq_false (by omega), Bool.false_and]
  walk_at "gg"
  refine g_lcS (z := d) (by rw [← TL.len_tl d] <;> omega) (fun _ => true) (fun c => .bl (dig c)) ?_ ?_
  · rintro c x H1 e1 rfl R S hR hS
    walk_at "gg"
    refine ⟨rfl, ?_⟩
    walk_at "gg"
    refine ⟨c, _, rfl, rfl, ?_⟩
    rw [show decide (c ∈ (("0123456789" : Str).cps.toList)) = dig c by
      rw [show (("0123456789" : Str).cps.toList) = [48, 49, 50, 51, 52, 53, 54, 55, 56, 57] by decide +kernel]
      unfold dig
      refine decide_eq_decide.mpr ?_
      simp only [List.mem_cons, List.not_mem_nil, or_false]
      omega]
    exact hS rfl _ (Evl.Ex.refl _)
  intro l1 H1 n1 e1 h1
  rw [filt_all] at h1
  walk_at "gg"
  refine g_allL (bs := (TL.tl d).map dig) (by rw [h1, List.map_map]; rfl) ?_
  have ea : ((TL.tl d).map dig).all id = (TL.tl d).all dig := by
    rw [List.all_map]
    rfl
  rw [ea]
  walk_at "gg"
  have c0 : digOk (TL.tl d) = (TL.tl d).all dig := by
    unfold digOk
    rw [decide_eq_true (by omega), Bool.true_and]
  cases c3 : (TL.tl d).all dig with
  | false =>
    walk_at "gg"
    exact bad (c0.trans c3) _ e1
  | true =>
    walk_at "gg"
    have c4 : digOk (unM (TL.tl t)) = true := by
      rw [← et]
      exact c0.trans c3
    have l9 := (digOk_all c4).2.1
    have lt : t.length ≤ 640 := by
      rw [TL.len_tl]
      have q : (TL.tl t).length ≤ (unM (TL.tl t)).length + 1 := by
        unfold unM
        split
        next r e => rw [e]; simp
        · omega
      omega
    refine ⟨t, _, rfl, intText_of c4, lt, ?_⟩
    walk_at "gg"
    refine ⟨_, rfl, log_small (intL_small c4), ?_⟩
    walk_at "gg"
    rw [c0, c3, if_pos rfl] at k
    refine if_d (fun c5 => ?_) (fun c5 => ?_)
    · walk_at "gg"
      rw [if_pos c5] at k
      exact k _ e1
    · walk_at "gg"
      rw [if_neg c5] at k
      exact k _ e1
end
section
open TL
local macro_rules | `(tactic| walk_at "m") => `(tactic| first
  | with_reducible refine g_m1 ?_
  | with_reducible refine g_isS ?_
  | with_reducible refine g_lcStr ?_
  | with_reducible refine g_join ?_
  | with_reducible refine g_js ?_
  | with_reducible refine g_jsN ?_
  | with_reducible refine g_fmt ?_
  | with_reducible refine g_callLam ?_
  | with_reducible refine g_revT ?_)
local macro_rules | `(tactic| walk_at "m") => `(tactic| first
  | with_reducible refine g_sfld ?_
  | with_reducible refine g_fld ?_
  | with_reducible refine g_meth ?_
  | with_reducible refine g_make ?_
  | with_reducible refine g_prop ?_
  | with_reducible refine g_del ?_)

theorem okGoD_enc : ∀ (cs : List (Int × Int)) (b e : Int), okGoD b e (cs.map encP) = okGo b e cs
  | [], _, _ => rfl
  | p :: r, b, e => by
    rw [List.map_cons, okGoD_cons, okGo_cons, ← okGoD_enc r]
    rfl
theorem okZD_enc (z : Zone) : okZD (encZ z) = okZ z := by
  show (decide (-12 ≤ z.1 ∧ z.1 ≤ 12) && (decide ((z.2.map encP).length ≤ 8) && okGoD z.1 (-1000) (z.2.map encP))) = _
  rw [okGoD_enc, List.length_map]
  rfl
/-! ### a desk's fields -/
def dkF (wv zv : V) (l : Addr) : List (Str × V) := [("_library", wv), ("_zone", zv), ("_times", .ref l)]
theorem ne_lz : ¬ (("_library" : Str) = "_zone") := by decide +kernel
theorem ne_lt : ¬ (("_library" : Str) = "_times") := by decide +kernel
theorem ne_zt : ¬ (("_zone" : Str) = "_times") := by decide +kernel
theorem dk_put1 (wv : V) : putF "_library" wv [] = [(("_library" : Str), wv)] := rfl
theorem dk_put2 (wv zv : V) : putF "_zone" zv [(("_library" : Str), wv)] = [(("_library" : Str), wv), ("_zone", zv)] := by
  unfold putF
  rw [if_neg ne_lz]
  rfl
theorem dk_put3 (wv zv : V) (l : Addr) : putF "_times" (.ref l) [(("_library" : Str), wv), ("_zone", zv)] = dkF wv zv l := by
  unfold putF
  rw [if_neg ne_lt]
  unfold putF
  rw [if_neg ne_zt]
  rfl
theorem look_lib (wv zv : V) (l : Addr) : (dkF wv zv l).lookup ("_library" : Str) = some wv := rfl
theorem look_zone (wv zv : V) (l : Addr) : (dkF wv zv l).lookup ("_zone" : Str) = some zv := by
  unfold dkF
  have e1 : (("_zone" : Str) == "_library") = false := by decide +kernel
  simp only [List.lookup, e1, beq_self_eq_true]
theorem look_times (wv zv : V) (l : Addr) : (dkF wv zv l).lookup ("_times" : Str) = some (.ref l) := by
  unfold dkF
  have e1 : (("_times" : Str) == "_library") = false := by decide +kernel
  have e2 : (("_times" : Str) == "_zone") = false := by decide +kernel
  simp only [List.lookup, e1, e2, beq_self_eq_true]
theorem look_no {m : Str} (h1 : (m == ("_library" : Str)) = false) (h2 : (m == ("_zone" : Str)) = false) (h3 : (m == ("_times" : Str)) = false) (wv zv : V) (l : Addr) : (dkF wv zv l).lookup m = none := by
  unfold dkF
  simp only [List.lookup, h1, h2, h3]
theorem no_run (wv zv : V) (l : Addr) : (dkF wv zv l).lookup ("run" : Str) = none := look_no (by decide +kernel) (by decide +kernel) (by decide +kernel) wv zv l
theorem no_undo (wv zv : V) (l : Addr) : (dkF wv zv l).lookup ("undo" : Str) = none := look_no (by decide +kernel) (by decide +kernel) (by decide +kernel) wv zv l
theorem no_by (wv zv : V) (l : Addr) : (dkF wv zv l).lookup ("_time_by" : Str) = none := look_no (by decide +kernel) (by decide +kernel) (by decide +kernel) wv zv l
/-! ### what a desk tells and does -/
def toldR : Option Tm → Str
  | none => "refused"
  | some t => (toString t.1 : Str) ++ (if t.2 = 1 then ("'" : Str) else Str.empty)
def toldI (y : Way) (z : Zone) : Option Tm → Str
  | none => "refused"
  | some t => toString (inst y z t)
def stepO (y : Way) (z : Zone) (word : Str) (n : Int) (cur : Option Tm) : Option (Option Tm) :=
  if word = "instant" ∧ -100000 ≤ n ∧ n ≤ 100000 then some (at_ y z n)
  else if word = "read" ∧ -90000 ≤ n ∧ n ≤ 90000 then some (read_ y z n)
  else if word = "add" ∧ (-9000 ≤ n ∧ n ≤ 9000) ∧ cur ≠ none then some (addT y z cur n) else none
def isWord3 (x : Str) : Bool := decide (("instant" : Str) = x) || (decide (("read" : Str) = x) || (decide (("add" : Str) = x) || false))
def lineO (t : Str) : Option (Str × Int) := match intOf (Txt.partition t " ").2.2 with
  | none => none
  | some n => if isWord3 (Txt.partition t " ").1 = true then some ((Txt.partition t " ").1, n) else none
def GoodT (y : Way) (z : Zone) (o : Option Tm) : Prop := ∀ t, o = some t → IsTm y z t
def SmallT (o : Option Tm) : Prop := ∀ t, o = some t → t.1.natAbs < 10 ^ 9
theorem seq_last {n : Nat} (h : 0 < n) : seqIndex? (-1) n = some (n - 1) := by
  have e : seqIndex? (-1) n = (if (decide (0 ≤ (-1 : Int) + (n : Int)) && decide ((-1 : Int) + (n : Int) < (n : Int))) = true then some ((-1 : Int) + (n : Int)).toNat else none) := rfl
  rw [e, decide_eq_true (by omega), decide_eq_true (by omega)]
  show some _ = _
  congr 1
  omega
theorem app_empty (a : Str) : a ++ Str.empty = a := ext_tl (by rw [tl_append]; show tl a ++ [] = tl a; rw [List.append_nil])
def LibD (K : PySem.W.Frag) (H : Hp) (v : V) : Option Way → Prop
  | none => v = .non
  | some y => WayV K H v y
def ZonD (K : PySem.W.Frag) (H : Hp) (v : V) : Option Zone → Prop
  | none => v = .non
  | some z => ZV K H v z ∧ okZ z = true
section
variable {w : World} {K : PySem.W.Frag} {mg : Str → Option Value}
/-- the desk at a: its instance, its list of times at l -/
structure DeskAt (T : Txt w K mg) (H : Hp) (a l : Addr) (wv zv : V) (y : Way) (z : Zone) (ts : List V) (hist : List (Option Tm)) : Prop where
  ob : ∃ dx, H a = some (.ins T.a_Desk dx (dkF wv zv l))
  lst : H l = some (.lst ts)
  pd : Paired (TV K H) ts hist
  way : WayV K H wv y
  zone : ZV K H zv z
theorem DeskAt.ex {T : Txt w K mg} {H H' : Hp} {a l : Addr} {wv zv : V} {y : Way} {z : Zone} {ts : List V} {hist : List (Option Tm)} (d : DeskAt T H a l wv zv y z ts hist) (e : Ex H H') : DeskAt T H' a l wv zv y z ts hist := by
  obtain ⟨dx, h⟩ := d.ob
  exact ⟨⟨dx, e _ _ h⟩, e _ _ d.lst, L2.Paired.mapP d.pd fun _ _ q => q.tr (TrT.of e), d.way.tr (TrT.of e), d.zone.tr (TrT.of e)⟩
theorem DeskAt.fr {T : Txt w K mg} {H H' : Hp} {a l r : Addr} {wv zv : V} {y : Way} {z : Zone} {ts xs : List V} {hist : List (Option Tm)} (d : DeskAt T H a l wv zv y z ts hist) (hr : H r = some (.lst xs)) (n : l ≠ r) (f : Fr r H H') : DeskAt T H' a l wv zv y z ts hist := by
  obtain ⟨dx, h⟩ := d.ob
  have na : a ≠ r := fun q => by rw [q, hr] at h; cases h
  exact ⟨⟨dx, f _ _ na h⟩, f _ _ n d.lst, L2.Paired.mapP d.pd fun _ _ q => q.tr (TrT.fr hr f), d.way.tr (TrT.fr hr f), d.zone.tr (TrT.fr hr f)⟩
/-- the list of times has changed -/
theorem DeskAt.now {T : Txt w K mg} {H H' : Hp} {a l : Addr} {wv zv : V} {y : Way} {z : Zone} {ts ts' : List V} {hist hist' : List (Option Tm)} (d : DeskAt T H a l wv zv y z ts hist) (f : Fr l H H') (q : H' l = some (.lst ts')) (p : Paired (TV K H') ts' hist') : DeskAt T H' a l wv zv y z ts' hist' := by
  obtain ⟨dx, h⟩ := d.ob
  have na : a ≠ l := fun e => by rw [e, d.lst] at h; cases h
  exact ⟨⟨dx, f _ _ na h⟩, q, p, d.way.tr (TrT.fr d.lst f), d.zone.tr (TrT.fr d.lst f)⟩
def sp_is_library_v (K : PySem.W.Frag) : Sp := fun vs H Q _ => ∃ (v : V) (o : Option Way), vs = [v] ∧ LibD K H v o ∧ Q (.bl o.isSome) H
def sp_is_zone_v (K : PySem.W.Frag) : Sp := fun vs H Q _ => ∃ (v : V) (o : Option Zone), vs = [v] ∧ ZonD K H v o ∧ Q (.bl o.isSome) H
def sp_check_library_x (T : Txt w K mg) : Sp := fun vs H Q E => ∃ (v : V) (o : Option Way), vs = [v] ∧ LibD K H v o ∧ (o.isSome = true → Q .non H) ∧ (o = none → E (.ref T.e_BadLibrary) none H)
def sp_check_zone_x (T : Txt w K mg) : Sp := fun vs H Q E => ∃ (v : V) (o : Option Zone), vs = [v] ∧ ZonD K H v o ∧ (o.isSome = true → Q .non H) ∧ (o = none → E (.ref T.e_BadZone) none H)
def sp_Desk_init_x (T : Txt w K mg) : Sp := fun vs H Q E => ∃ (x dx : Addr) (wv zv : V) (oy : Option Way) (oz : Option Zone), vs = [.ref x, wv, zv] ∧ H x = some (.ins T.a_Desk dx []) ∧ LibD K H wv oy ∧ (oy = none ∨ ZonD K H zv oz) ∧
  (oy = none → E (.ref T.e_BadLibrary) none H) ∧ (oy.isSome = true → oz = none → E (.ref T.e_BadZone) none H) ∧
  (∀ y z, oy = some y → oz = some z → ∀ (l : Addr) (tv : V) (H' : Hp), l ≠ x → H l = none → Fr x H H' → DeskAt T H' x l wv zv y z [tv] [at_ y z (-500)] → Q .non H')
def sp_Desk_time (T : Txt w K mg) : Sp := fun vs H Q _ => ∃ (a dx : Addr) (wv zv : V) (l : Addr) (ts : List V) (v : V), vs = [.ref a] ∧ H a = some (.ins T.a_Desk dx (dkF wv zv l)) ∧ H l = some (.lst ts) ∧ ts.getLast? = some v ∧ Q v H
def sp_Desk_undo_x (T : Txt w K mg) : Sp := fun vs H Q E => ∃ (a dx : Addr) (wv zv : V) (l : Addr) (ts : List V), vs = [.ref a] ∧ H a = some (.ins T.a_Desk dx (dkF wv zv l)) ∧ H l = some (.lst ts) ∧ 1 ≤ ts.length ∧ ts.length ≤ 1000 ∧
  (ts.length = 1 → E (.ref T.e_NothingToUndo) none H) ∧ (2 ≤ ts.length → ∀ H', Fr l H H' → H' l = some (.lst ts.dropLast) → Q .non H')
def sp_reading_told (K : PySem.W.Frag) : Sp := fun vs H Q _ => ∃ (v : V) (o : Option Tm), vs = [v] ∧ TV K H v o ∧ SmallT o ∧ ∀ H', Ex H H' → Q (.str (toldR o)) H'
def sp_instant_told (K : PySem.W.Frag) : Sp := fun vs H Q _ => ∃ (wv zv v : V) (y : Way) (z : Zone) (o : Option Tm), vs = [wv, zv, v] ∧ WayV K H wv y ∧ ZV K H zv z ∧ OkZ z ∧ TV K H v o ∧ GoodT y z o ∧ (∀ t, o = some t → (inst y z t).natAbs < 10 ^ 9) ∧ ∀ H', Ex H H' → Q (.str (toldI y z o)) H'
def sp_Desk_time_by_x (T : Txt w K mg) : Sp := fun vs H Q E => ∃ (a l : Addr) (word : Str) (n : Int) (wv zv : V) (y : Way) (z : Zone) (ts : List V) (hist : List (Option Tm)) (v : V) (cur : Option Tm), vs = [.ref a, .str word, .int n] ∧
  DeskAt T H a l wv zv y z ts hist ∧ OkZ z ∧ ts.getLast? = some v ∧ TV K H v cur ∧ GoodT y z cur ∧
  (stepO y z word n cur = none → ∀ H', Ex H H' → E (.ref T.e_NotNow) none H') ∧ (∀ o, stepO y z word n cur = some o → ∀ tv H', Ex H H' → TV K H' tv o → Q tv H')
def sp_Desk_run_x (T : Txt w K mg) : Sp := fun vs H Q E => ∃ (a l : Addr) (x : V) (d : PyData) (wv zv : V) (y : Way) (z : Zone) (ts : List V) (hist : List (Option Tm)) (v : V) (cur : Option Tm), vs = [.ref a, x] ∧
  DaV K H x d ∧ DeskAt T H a l wv zv y z ts hist ∧ OkZ z ∧ ts.getLast? = some v ∧ ts.length ≤ 1000 ∧ TV K H v cur ∧ GoodT y z cur ∧ SmallT cur ∧ (∀ t, cur = some t → (inst y z t).natAbs < 10 ^ 9) ∧
  (isStrD d = false → E (.ref T.e_NotText) none H) ∧ (∀ t, d = .str t → t.length ≤ 1000 ∧
    (t = "show" → ∀ H', Ex H H' → Q (.str (toldR cur)) H') ∧ (t = "when" → ∀ H', Ex H H' → Q (.str (toldI y z cur)) H') ∧
    (t ≠ "show" → t ≠ "when" → (lineO t = none → ∀ H', Ex H H' → E (.ref T.e_InvalidText) none H') ∧ (∀ word n, lineO t = some (word, n) →
      (stepO y z word n cur = none → ∀ H', Ex H H' → E (.ref T.e_NotNow) none H') ∧
      (∀ o, stepO y z word n cur = some o → ∀ tv H', Fr l H H' → H' l = some (.lst (ts ++ [tv])) → TV K H' tv o → Q .non H'))))
end
section
variable {P : Program} {w : World} {K : PySem.W.Frag} {mg : Str → Option Value} {base : Heap}
theorem ok_is_library_v (T : Txt w K mg) : FnOk P w K mg base CX0 2 T.f_is_library.f T.f_is_library.fd ["value"] (sp_is_library_v K) := by
  refine T.f_is_library.F.ok sc_is_library (fun vs H Q E h => ?_) (fun cdv A outer s H vs Q E hr h => ?_)
  · obtain ⟨v, o, rfl, _⟩ := h
    rfl
  obtain ⟨v, o, rfl, hv, k⟩ := h
  refine ⟨(tSeq (tIfS (tNot (tB (tCall (sp_is_tuple_of_d K) [] E0 (tCons (tC (.int 4)) (tCons (tVar 0) tNil))))) (tRet (tC (.bl false))) tNext) (tSeq (tAsg (tVar 0) (gTup K 4 (gCons (gName 1) (gCons (gName 2) (gCons (gName 3) (gCons (gName 4) gNil)))))) (tRet (tAndV (tOp (rIn K false) (tVar 1) (tC (.ref T.a_SUMS))) (tAndV (tOp (rIn K false) (tVar 2) (tC (.ref T.a_ORDERS))) (tAndV (tOp (rIn K false) (tVar 3) (tC (.ref T.a_GAPS))) (tOp (rIn K false) (tVar 4) (tC (.ref T.a_FOLDS))))))))),
    PSs.nox (pss_cons (ps_if (pt_not (pt_val (pe_call (ok_is_tuple_of_d T) (hr.mono (by decide)) (by rfl) T.f_is_tuple_of.g T.f_is_tuple_of.F.kp T.f_is_tuple_of.b .nil pass0 (pa_cons pe_int (pa_cons (pv 0) pa_nil))))) (pss_one (ps_ret pe_bl)) pss_nil) (pss_cons (ps_asg (pv 0) (pg_tup rfl (pgs_cons (pg_name (i := 1) sc_is_library.nd rfl (Or.inl rfl)) (pgs_cons (pg_name (i := 2) sc_is_library.nd rfl (Or.inl rfl)) (pgs_cons (pg_name (i := 3) sc_is_library.nd rfl (Or.inl rfl)) (pgs_cons (pg_name (i := 4) sc_is_library.nd rfl (Or.inl rfl)) pgs_nil)))))) (pss_one (ps_ret (pe_and (pe_cmpR op_in_seq (pv 1) (pe_glob (by rfl) T.c_SUMS rfl) (by rfl)) (pe_and (pe_cmpR op_in_seq (pv 2) (pe_glob (by rfl) T.c_ORDERS rfl) (by rfl)) (pe_and (pe_cmpR op_in_seq (pv 3) (pe_glob (by rfl) T.c_GAPS rfl) (by rfl)) (pe_one (pe_cmpR op_in_seq (pv 4) (pe_glob (by rfl) T.c_FOLDS rfl) (by rfl)))))))))), ?_⟩
  walk_at "gg"
  cases o with
  | none =>
    cases (show v = V.non from hv)
    refine ⟨4, .non, .none, rfl, .non, ?_⟩
    walk_at "gg"
    exact k
  | some y =>
    obtain ⟨a, rfl, hw⟩ := (show WayV K H v y from hv)
    refine ⟨4, .ref a, .tuple [.str (sumS y.ws), .str (sumS y.wo), .str (gapS y.gap), .str (foldS y.fold)], rfl, .tup hw rfl (fun i x d hx hd => ?_), ?_⟩
    · match i, hx, hd with
      | 0, hx, hd => cases hx; cases hd; exact .str _
      | 1, hx, hd => cases hx; cases hd; exact .str _
      | 2, hx, hd => cases hx; cases hd; exact .str _
      | 3, hx, hd => cases hx; cases hd; exact .str _
      | i + 4, hx, hd => simp at hx
    rw [show tupN (.tuple [.str (sumS y.ws), .str (sumS y.wo), .str (gapS y.gap), .str (foldS y.fold)]) 4 = true from rfl]
    walk_at "gg"
    refine g_inTu (T.q_SUMS _) rfl rfl ?_
    walk_at "gg"
    refine if_t (by cases y.ws <;> decide +kernel) ?_
    walk_at "gg"
    refine g_inTu (T.q_ORDERS _) rfl rfl ?_
    walk_at "gg"
    refine if_t (by cases y.wo <;> decide +kernel) ?_
    walk_at "gg"
    refine g_inTu (T.q_GAPS _) rfl rfl ?_
    walk_at "gg"
    refine if_t (by cases y.gap <;> decide +kernel) ?_
    walk_at "gg"
    refine g_inTu (T.q_FOLDS _) rfl rfl ?_
    rw [show inV (.str (foldS y.fold)) [.str "both", .str "first", .str "refuse", .str "second"] = true by cases y.fold <;> decide +kernel]
    exact k
theorem ok_is_zone_v (T : Txt w K mg) : FnOk P w K mg base CX0 4 T.f_is_zone.f T.f_is_zone.fd ["value"] (sp_is_zone_v K) := by
  have F := ok_is_zone_d (P := P) (base := base) T
  refine F.imp fun vs H Q E h => ?_
  obtain ⟨v, o, rfl, hv, k⟩ := h
  cases o with
  | none =>
    cases (show v = V.non from hv)
    exact ⟨.non, .none, rfl, .non, k⟩
  | some z =>
    obtain ⟨hz, ho⟩ := (show ZV K H v z ∧ okZ z = true from hv)
    exact ⟨v, encZ z, rfl, dav_of_zone hz, by rw [(okZD_enc z).trans ho]; exact k⟩
theorem ok_check_library_x (T : Txt w K mg) : FnOk P w K mg base (L2.CX P w) 3 T.f_check_library.f T.f_check_library.fd ["value"] (sp_check_library_x T) := by
  refine T.f_check_library.F.ok sc_check_library (fun vs H Q E h => ?_) (fun cdv A outer s H vs Q E hr h => ?_)
  · obtain ⟨v, o, rfl, _⟩ := h
    rfl
  obtain ⟨v, o, rfl, hv, k1, k2⟩ := h
  refine ⟨(tIfS (tNot (tB (tCall (sp_is_library_v K) [] E0 (tCons (tVar 0) tNil)))) (fun _ σ H => E (.ref T.e_BadLibrary) none H) tNext),
    (pss_one (ps_if (pt_not (pt_val (pe_call (ok_is_library_v T) (hr.mono (by decide)) (by rfl) T.f_is_library.g T.f_is_library.F.kp T.f_is_library.b .nil pass0 (pa_cons (pv 0) pa_nil)))) (pss_one (ps_err rfl (takes_of rfl rfl rfl rfl) T.g_BadLibrary T.x_BadLibrary rfl)) pss_nil)), ?_⟩
  walk_at "gg"
  refine ⟨v, o, rfl, hv, ?_⟩
  cases o with
  | none => walk_at "gg"; exact k2 rfl
  | some y => walk_at "gg"; exact k1 rfl
theorem ok_check_zone_x (T : Txt w K mg) : FnOk P w K mg base (L2.CX P w) 5 T.f_check_zone.f T.f_check_zone.fd ["value"] (sp_check_zone_x T) := by
  refine T.f_check_zone.F.ok sc_check_zone (fun vs H Q E h => ?_) (fun cdv A outer s H vs Q E hr h => ?_)
  · obtain ⟨v, o, rfl, _⟩ := h
    rfl
  obtain ⟨v, o, rfl, hv, k1, k2⟩ := h
  refine ⟨(tIfS (tNot (tB (tCall (sp_is_zone_v K) [] E0 (tCons (tVar 0) tNil)))) (fun _ σ H => E (.ref T.e_BadZone) none H) tNext),
    (pss_one (ps_if (pt_not (pt_val (pe_call (ok_is_zone_v T) (hr.mono (by decide)) (by rfl) T.f_is_zone.g T.f_is_zone.F.kp T.f_is_zone.b .nil pass0 (pa_cons (pv 0) pa_nil)))) (pss_one (ps_err rfl (takes_of rfl rfl rfl rfl) T.g_BadZone T.x_BadZone rfl)) pss_nil)), ?_⟩
  walk_at "gg"
  refine ⟨v, o, rfl, hv, ?_⟩
  cases o with
  | none => walk_at "gg"; exact k2 rfl
  | some y => walk_at "gg"; exact k1 rfl
theorem ok_Desk_init_x (T : Txt w K mg) : FnOk P w K mg base (L2.CX P w) 6 T.f_Desk_init.f T.f_Desk_init.fd ["self", "library", "zone"] (sp_Desk_init_x T) := by
  refine T.f_Desk_init.F.ok sc_Desk_init (fun vs H Q E h => ?_) (fun cdv A outer s H vs Q E hr h => ?_)
  · obtain ⟨x, dx, wv, zv, oy, oz, rfl, _⟩ := h
    rfl
  obtain ⟨x, dx, wv, zv, oy, oz, rfl, hx, hy, hz, k1, k2, k3⟩ := h
  refine ⟨(tSeq (tDrop (tCall (sp_check_library_x T) [] E (tCons (tVar 1) tNil))) (tSeq (tDrop (tCall (sp_check_zone_x T) [] E (tCons (tVar 2) tNil))) (tSeq (sFld K (tVar 0) (tVar 1) "_library") (tSeq (sFld K (tVar 0) (tVar 2) "_zone") (sFld K (tVar 0) (tLst (tCons (tCall (sp_time_at K) [] E0 (tCons (tVar 1) (tCons (tVar 2) (tCons (tC (.int (-500))) tNil)))) tNil)) "_times"))))),
    (pss_cons (ps_expr (pe_call (ok_check_library_x T) (hr.mono (by decide)) (by rfl) T.f_check_library.g T.f_check_library.F.kp T.f_check_library.b .nil (passU (takes_of rfl rfl rfl rfl)) (pa_cons (pv 1) pa_nil))) (pss_cons (ps_expr (pe_call (ok_check_zone_x T) (hr.mono (by decide)) (by rfl) T.f_check_zone.g T.f_check_zone.F.kp T.f_check_zone.b .nil (passU (takes_of rfl rfl rfl rfl)) (pa_cons (pv 2) pa_nil))) (pss_cons (ps_fld (pv 0) (pv 1) rfl) (pss_cons (ps_fld (pv 0) (pv 2) rfl) (pss_one (ps_fld (pv 0) (pe_lst (pa_cons (pe_call (ok_time_at T) (hr.mono (by decide)) (by rfl) T.f_time_at.g T.f_time_at.F.kp T.f_time_at.b .nil pass0 (pa_cons (pv 1) (pa_cons (pv 2) (pa_cons (pe_glob (by rfl) T.c_FIRST_INSTANT ⟨_, rfl⟩) pa_nil)))) pa_nil)) rfl)))))), ?_⟩
  walk_at "gg"
  refine ⟨wv, oy, rfl, hy, fun sy => ?_, k1⟩
  obtain ⟨y, rfl⟩ := Option.isSome_iff_exists.mp sy
  rcases hz with hz | hz
  · cases hz
  walk_at "gg"
  refine ⟨zv, oz, rfl, hz, fun sz => ?_, k2 rfl⟩
  obtain ⟨z, rfl⟩ := Option.isSome_iff_exists.mp sz
  obtain ⟨hz, ho⟩ := (show ZV K H zv z ∧ okZ z = true from hz)
  have hw : WayV K H wv y := hy
  walk_at "gg"
  refine ⟨x, _, dx, [], rfl, hx, T.cl_Desk, T.na_library, by simp, ?_⟩
  rw [dk_put1]
  generalize hH1 : L2.upd H x (.ins T.a_Desk dx [(("_library" : Str), wv)]) = H1
  have h1 : H1 x = some (.ins T.a_Desk dx [(("_library" : Str), wv)]) := by rw [← hH1]; exact upd_same
  have f1 : Fr x H H1 := by rw [← hH1]; exact Fr.upd
  walk_at "gg"
  refine ⟨x, _, dx, _, rfl, h1, T.cl_Desk, T.na_zone, by simp, ?_⟩
  rw [dk_put2]
  generalize hH2 : L2.upd H1 x (.ins T.a_Desk dx [(("_library" : Str), wv), ("_zone", zv)]) = H2
  have h2 : H2 x = some (.ins T.a_Desk dx [(("_library" : Str), wv), ("_zone", zv)]) := by rw [← hH2]; exact upd_same
  have f2 : Fr x H H2 := f1.trans (by rw [← hH2]; exact Fr.upd)
  have t2 : TrT K H H2 := fun a xs h => by
    rcases h with (h | ⟨o, h⟩) | h
    · exact .inl (.inl (f2 _ _ (fun q => by rw [q, hx] at h; cases h) h))
    · exact .inl (.inr ⟨o, f2 _ _ (fun q => by rw [q, hx] at h; cases h) h⟩)
    · exact .inr h
  walk_at "gg"
  refine ⟨_, _, y, z, _, rfl, hw.tr t2, hz.tr t2, OkZ.of ho, fun tv H3 e3 h3 => ?_⟩
  walk_at "gg"
  refine g_newL (by simp) fun l H4 n4 e4 h4 => ?_
  walk_at "gg"
  refine ⟨x, _, dx, _, rfl, e4 _ _ (e3 _ _ h2), T.cl_Desk, T.na_times, by simp, ?_⟩
  rw [dk_put3]
  have nlx : l ≠ x := (ne_of_none (e3 _ _ h2) n4).symm
  have nl : H l = none := by
    cases c : H l with
    | none => rfl
    | some o =>
      have q := e3 _ _ (f2 _ _ nlx c)
      rw [q] at n4
      cases n4
  walk_at "gg"
  have h4x := e4 _ _ (e3 _ _ h2)
  generalize hH5 : L2.upd H4 x (.ins T.a_Desk dx (dkF wv zv l)) = H5
  have f5 : Fr x H4 H5 := by rw [← hH5]; exact Fr.upd
  have t5 : TrT K H4 H5 := fun a xs h => by
    rcases h with (h | ⟨o, h⟩) | h
    · exact .inl (.inl (f5 _ _ (fun q => by rw [q, h4x] at h; cases h) h))
    · exact .inl (.inr ⟨o, f5 _ _ (fun q => by rw [q, h4x] at h; cases h) h⟩)
    · exact .inr h
  have t25 : TrT K H2 H5 := ((TrT.of e3).trans (TrT.of e4)).trans t5
  exact k3 y z rfl rfl l tv H5 nlx nl ((f2.trans (Fr.of (e3.trans e4))).trans f5) ⟨⟨dx, by rw [← hH5]; exact upd_same⟩, f5 _ _ nlx h4, .cons (h3.tr ((TrT.of e4).trans t5)) .nil, hw.tr (t2.trans t25), hz.tr (t2.trans t25)⟩
theorem ok_Desk_time (T : Txt w K mg) : FnOk P w K mg base CX0 1 T.f_Desk_time.f T.f_Desk_time.fd ["self"] (sp_Desk_time T) := by
  refine T.f_Desk_time.F.ok sc_Desk_time (fun vs H Q E h => ?_) (fun cdv A outer s H vs Q E hr h => ?_)
  · obtain ⟨a, dx, wv, zv, l, ts, v, rfl, _⟩ := h
    rfl
  obtain ⟨a, dx, wv, zv, l, ts, v, rfl, ha, hl, hv, k⟩ := h
  refine ⟨(tRet (tOp (rIxL K) (tFld K (tVar 0) "_times") (tUn (rU fun i => .int (-i)) (tC (.int 1))))),
    PSs.nox (pss_one (ps_ret (pe_ix ix_list (pe_fld (pv 0) rfl) (pe_un un_neg pe_int) (fun _ _ => rfl)))), ?_⟩
  walk_at "gg"
  refine ⟨a, _, dx, _, _, rfl, ha, T.cl_Desk, T.na_times, look_times wv zv l, ?_⟩
  walk_at "gg"
  refine g_ixL (SqL.of hl) (atI_end hv) ?_
  exact k
theorem ok_Desk_undo_x (T : Txt w K mg) : FnOk P w K mg base (L2.CX P w) 1 T.f_Desk_undo.f T.f_Desk_undo.fd ["self"] (sp_Desk_undo_x T) := by
  refine T.f_Desk_undo.F.ok sc_Desk_undo (fun vs H Q E h => ?_) (fun cdv A outer s H vs Q E hr h => ?_)
  · obtain ⟨a, dx, wv, zv, l, ts, rfl, _⟩ := h
    rfl
  obtain ⟨a, dx, wv, zv, l, ts, rfl, ha, hl, l1, l2, k1, k2⟩ := h
  refine ⟨(tSeq (tIfS (tTest (tOp rEq (tCB (Evl.rLenS K) (tCons (tFld K (tVar 0) "_times") tNil)) (tC (.int 1)))) (fun _ σ H => E (.ref T.e_NothingToUndo) none H) tNext) (tDelL (tFld K (tVar 0) "_times") (tUn (rU fun i => .int (-i)) (tC (.int 1))))),
    (pss_cons (ps_if (pt_cmpR op_eq (pe_callB call_len_seq (by rfl) T.z_len (by decide +kernel) (pa_cons (pe_fld (pv 0) rfl) pa_nil)) pe_int (nomark _)) (pss_one (ps_err rfl (takes_of rfl rfl rfl rfl) T.g_NothingToUndo T.x_NothingToUndo rfl)) pss_nil) (pss_one (ps_delL (pe_fld (pv 0) rfl) (pe_un un_neg pe_int)))), ?_⟩
  walk_at "gg"
  refine ⟨a, _, dx, _, _, rfl, ha, T.cl_Desk, T.na_times, look_times wv zv l, ?_⟩
  walk_at "gg"
  refine g_lenL (SqL.of hl) ?_
  walk_at "gg"
  refine if_d (fun c => ?_) (fun c => ?_)
  · walk_at "gg"
    exact k1 (by omega)
  · walk_at "gg"
    refine ⟨a, _, dx, _, _, rfl, ha, T.cl_Desk, T.na_times, look_times wv zv l, ?_⟩
    walk_at "gg"
    refine ⟨l, ts, -1, ts.length - 1, rfl, rfl, hl, by omega, by omega, ?_, ?_⟩
    · exact seq_last (by omega)
    · walk_at "gg"
      refine k2 (by omega) _ Fr.upd ?_
      rw [upd_same, List.eraseIdx_length_sub_one]
theorem ok_reading_told (T : Txt w K mg) : FnOk P w K mg base CX0 1 T.f_reading_told.f T.f_reading_told.fd ["time"] (sp_reading_told K) := by
  refine T.f_reading_told.F.ok sc_reading_told (fun vs H Q E h => ?_) (fun cdv A outer s H vs Q E hr h => ?_)
  · obtain ⟨v, o, rfl, _⟩ := h
    rfl
  obtain ⟨v, o, rfl, hv, small, k⟩ := h
  refine ⟨(tSeq (tIfS (tTest (tOp (rEqD K) (tVar 0) (tC (.str "refused")))) (tRet (tC (.str "refused"))) tNext) (tSeq (tAsg (tVar 0) (gTup K 2 (gCons (gName 1) (gCons (gName 2) gNil)))) (tRet (tIf (tTest (tOp rEq (tVar 2) (tC (.int 1)))) (tJoin [(tFmt (tVar 1)), (tC (.str "'"))]) (tCB rStrInt (tCons (tVar 1) tNil)))))),
    PSs.nox (pss_cons (ps_if (pt_cmpR (op_eqD hr.units) (pv 0) (pe_glob (by rfl) T.c_REFUSED ⟨_, rfl⟩) (nomark _)) (pss_one (ps_ret (pe_glob (by rfl) T.c_REFUSED ⟨_, rfl⟩))) pss_nil) (pss_cons (ps_asg (pv 0) (pg_tup rfl (pgs_cons (pg_name (i := 1) sc_reading_told.nd rfl (Or.inl rfl)) (pgs_cons (pg_name (i := 2) sc_reading_told.nd rfl (Or.inl rfl)) pgs_nil)))) (pss_one (ps_ret (pe_ifExp (pt_cmpR op_eq (pv 2) pe_int (nomark _)) (pe_joined (.cons (pe_fmt (pv 1)) (.cons pe_str .nil))) (pe_callTy crStrInt (by rfl) T.z_str (by decide +kernel) (pa_cons (pv 1) pa_nil))))))), ?_⟩
  walk_at "gg"
  refine g_eqT (b := none) hv rfl ?_
  cases o with
  | none =>
    walk_at "gg"
    exact k _ (Evl.Ex.refl _)
  | some t =>
    have st := small t rfl
    have lt := str_len st
    have l3 : ("'" : Str).length = 1 := by decide +kernel
    have le : Str.empty.length = 0 := rfl
    have sz : 1000 ≤ sizeLine := by decide
    have k' := k _ (Evl.Ex.refl _)
    unfold toldR at k'
    obtain ⟨p, rfl, hp⟩ := (show PV K H v t from hv)
    walk_at "gg"
    refine if_d (fun c => ?_) (fun c => ?_)
    · simp only [c, if_true] at k'
      walk_at "gg"
      refine .inr ⟨t.1, rfl, log_small st, ?_⟩
      refine ⟨_, rfl, by rw [len_app]; omega, ?_⟩
      walk_at "gg"
      refine ⟨by rw [len_app, len_app]; omega, ?_⟩
      walk_at "gg"
      rw [empty_app]
      exact k'
    · simp only [c, if_false] at k'
      rw [app_empty] at k'
      walk_at "gg"
      refine ⟨_, rfl, log_small st, ?_⟩
      exact k'
theorem ok_instant_told (T : Txt w K mg) : FnOk P w K mg base CX0 4 T.f_instant_told.f T.f_instant_told.fd ["library", "zone", "time"] (sp_instant_told K) := by
  refine T.f_instant_told.F.ok sc_instant_told (fun vs H Q E h => ?_) (fun cdv A outer s H vs Q E hr h => ?_)
  · obtain ⟨wv, zv, v, y, z, o, rfl, _⟩ := h
    rfl
  obtain ⟨wv, zv, v, y, z, o, rfl, hw, hz, hok, hv, good, small, k⟩ := h
  refine ⟨(tSeq (tIfS (tTest (tOp (rEqD K) (tVar 2) (tC (.str "refused")))) (tRet (tC (.str "refused"))) tNext) (tRet (tCB rStrInt (tCons (tCall (sp_instant_of_time K) [] E0 (tCons (tVar 0) (tCons (tVar 1) (tCons (tVar 2) tNil)))) tNil)))),
    PSs.nox (pss_cons (ps_if (pt_cmpR (op_eqD hr.units) (pv 2) (pe_glob (by rfl) T.c_REFUSED ⟨_, rfl⟩) (nomark _)) (pss_one (ps_ret (pe_glob (by rfl) T.c_REFUSED ⟨_, rfl⟩))) pss_nil) (pss_one (ps_ret (pe_callTy crStrInt (by rfl) T.z_str (by decide +kernel) (pa_cons (pe_call (ok_instant_of_time T) (hr.mono (by decide)) (by rfl) T.f_instant_of_time.g T.f_instant_of_time.F.kp T.f_instant_of_time.b .nil pass0 (pa_cons (pv 0) (pa_cons (pv 1) (pa_cons (pv 2) pa_nil)))) pa_nil))))), ?_⟩
  walk_at "gg"
  refine g_eqT (b := none) hv rfl ?_
  cases o with
  | none =>
    walk_at "gg"
    exact k _ (Evl.Ex.refl _)
  | some t =>
    walk_at "gg"
    refine ⟨_, _, _, y, z, t, rfl, hw, hz, hok, hv, good t rfl, fun H1 e1 => ?_⟩
    walk_at "gg"
    refine ⟨_, rfl, log_small (small t rfl), ?_⟩
    exact k _ e1
end
end
section
open TL
local macro_rules | `(tactic| walk_at "m") => `(tactic| first
  | with_reducible refine g_m1 ?_
  | with_reducible refine g_isS ?_
  | with_reducible refine g_lcStr ?_
  | with_reducible refine g_join ?_
  | with_reducible refine g_js ?_
  | with_reducible refine g_jsN ?_
  | with_reducible refine g_fmt ?_
  | with_reducible refine g_callLam ?_
  | with_reducible refine g_revT ?_)
local macro_rules | `(tactic| walk_at "m") => `(tactic| first
  | with_reducible refine g_sfld ?_
  | with_reducible refine g_fld ?_
  | with_reducible refine g_meth ?_
  | with_reducible refine g_make ?_
  | with_reducible refine g_prop ?_
  | with_reducible refine g_del ?_)

section
variable {y : Way} {z : Zone} {n : Int} {cur : Option Tm} {word : Str}
theorem step_inst : stepO y z "instant" n cur = if -100000 ≤ n ∧ n ≤ 100000 then some (at_ y z n) else none := by
  unfold stepO
  by_cases c : -100000 ≤ n ∧ n ≤ 100000
  · rw [if_pos ⟨rfl, c⟩, if_pos c]
  · rw [if_neg fun h => c h.2, if_neg fun h => absurd h.1 (by decide +kernel), if_neg fun h => absurd h.1 (by decide +kernel), if_neg c]
theorem step_read : stepO y z "read" n cur = if -90000 ≤ n ∧ n ≤ 90000 then some (read_ y z n) else none := by
  unfold stepO
  by_cases c : -90000 ≤ n ∧ n ≤ 90000
  · rw [if_neg fun h => absurd h.1 (by decide +kernel), if_pos ⟨rfl, c⟩, if_pos c]
  · rw [if_neg fun h => absurd h.1 (by decide +kernel), if_neg fun h => c h.2, if_neg fun h => absurd h.1 (by decide +kernel), if_neg c]
theorem step_add : stepO y z "add" n cur = if (-9000 ≤ n ∧ n ≤ 9000) ∧ cur ≠ none then some (addT y z cur n) else none := by
  unfold stepO
  by_cases c : (-9000 ≤ n ∧ n ≤ 9000) ∧ cur ≠ none
  · rw [if_neg fun h => absurd h.1 (by decide +kernel), if_neg fun h => absurd h.1 (by decide +kernel), if_pos ⟨rfl, c⟩, if_pos c]
  · rw [if_neg fun h => absurd h.1 (by decide +kernel), if_neg fun h => absurd h.1 (by decide +kernel), if_neg fun h => c h.2, if_neg c]
theorem step_no (h1 : ¬ word = "instant") (h2 : ¬ word = "read") (h3 : ¬ word = "add") : stepO y z word n cur = none := by
  unfold stepO
  rw [if_neg fun h => h1 h.1, if_neg fun h => h2 h.1, if_neg fun h => h3 h.1]
end
section
variable {P : Program} {w : World} {K : PySem.W.Frag} {mg : Str → Option Value} {base : Heap}
theorem ok_Desk_time_by_x (T : Txt w K mg) : FnOk P w K mg base (L2.CX P w) 6 T.f_Desk_time_by.f T.f_Desk_time_by.fd ["self", "word", "number"] (sp_Desk_time_by_x T) := by
  refine T.f_Desk_time_by.F.ok sc_Desk_time_by (fun vs H Q E h => ?_) (fun cdv A outer s H vs Q E hr h => ?_)
  · obtain ⟨a, l, word, n, wv, zv, y, z, ts, hist, v, cur, rfl, _⟩ := h
    rfl
  obtain ⟨a, l, word, n, wv, zv, y, z, ts, hist, v, cur, rfl, D, hok, hv, tv, good, kbad, kgood⟩ := h
  obtain ⟨dx, ha⟩ := D.ob
  have e0 := Evl.Ex.refl H
  refine ⟨(tSeq (tPar 3 4 (tCons (tFld K (tVar 0) "_library") (tCons (tFld K (tVar 0) "_zone") tNil))) (tSeq (tIfS (tAnd (tTest (tOp rEq (tVar 1) (tC (.str "instant")))) (tB (tCall (sp_is_instant K) [] E0 (tCons (tVar 2) tNil)))) (tRet (tCall (sp_time_at K) [] E0 (tCons (tVar 3) (tCons (tVar 4) (tCons (tVar 2) tNil))))) tNext) (tSeq (tIfS (tAnd (tTest (tOp rEq (tVar 1) (tC (.str "read")))) (tB (tCall (sp_is_reading K) [] E0 (tCons (tVar 2) tNil)))) (tRet (tCall (sp_time_read K) [] E0 (tCons (tVar 3) (tCons (tVar 4) (tCons (tVar 2) tNil))))) tNext) (tSeq (tIfS (tAnd (tTest (tOp rEq (tVar 1) (tC (.str "add")))) (tAnd (tB (tCall (sp_is_duration K) [] E0 (tCons (tVar 2) tNil))) (tTest (tOp (rNeD K) (tProp T.a_Desk (sp_Desk_time T) [] E0 (tVar 0)) (tC (.str "refused")))))) (tRet (tCall (sp_time_after K) [] E0 (tCons (tVar 3) (tCons (tVar 4) (tCons (tProp T.a_Desk (sp_Desk_time T) [] E0 (tVar 0)) (tCons (tVar 2) tNil)))))) tNext) (fun _ σ H => E (.ref T.e_NotNow) none H))))),
    (pss_cons (ps_par (by rfl) sc_Desk_time_by.nd rfl rfl (by decide) rfl rfl (pa_cons (pe_fld (pv 0) rfl) (pa_cons (pe_fld (pv 0) rfl) pa_nil)) (by rfl)) (pss_cons (ps_if (PW.pt (pw_and (pt_cmpR op_eq (pv 1) pe_str (nomark _)) (pw_and1 (pt_val (pe_call (ok_is_instant T) (hr.mono (by decide)) (by rfl) T.f_is_instant.g T.f_is_instant.F.kp T.f_is_instant.b .nil pass0 (pa_cons (pv 2) pa_nil)))))) (pss_one (ps_ret (pe_call (ok_time_at T) (hr.mono (by decide)) (by rfl) T.f_time_at.g T.f_time_at.F.kp T.f_time_at.b .nil pass0 (pa_cons (pv 3) (pa_cons (pv 4) (pa_cons (pv 2) pa_nil)))))) pss_nil) (pss_cons (ps_if (PW.pt (pw_and (pt_cmpR op_eq (pv 1) pe_str (nomark _)) (pw_and1 (pt_val (pe_call (ok_is_reading T) (hr.mono (by decide)) (by rfl) T.f_is_reading.g T.f_is_reading.F.kp T.f_is_reading.b .nil pass0 (pa_cons (pv 2) pa_nil)))))) (pss_one (ps_ret (pe_call (ok_time_read T) (hr.mono (by decide)) (by rfl) T.f_time_read.g T.f_time_read.F.kp T.f_time_read.b .nil pass0 (pa_cons (pv 3) (pa_cons (pv 4) (pa_cons (pv 2) pa_nil)))))) pss_nil) (pss_cons (ps_if (PW.pt (pw_and (pt_cmpR op_eq (pv 1) pe_str (nomark _)) (pw_and (pt_val (pe_call (ok_is_duration T) (hr.mono (by decide)) (by rfl) T.f_is_duration.g T.f_is_duration.F.kp T.f_is_duration.b .nil pass0 (pa_cons (pv 2) pa_nil))) (pw_and1 (pt_cmpR (op_neD hr.units) (pe_prop (pv 0) T.cl_Desk T.pr_Desk_time (ok_Desk_time T) (hr.mono (by decide)) T.f_Desk_time.b .nil pass0 rfl) (pe_glob (by rfl) T.c_REFUSED ⟨_, rfl⟩) (nomark _)))))) (pss_one (ps_ret (pe_call (ok_time_after T) (hr.mono (by decide)) (by rfl) T.f_time_after.g T.f_time_after.F.kp T.f_time_after.b .nil pass0 (pa_cons (pv 3) (pa_cons (pv 4) (pa_cons (pe_prop (pv 0) T.cl_Desk T.pr_Desk_time (ok_Desk_time T) (hr.mono (by decide)) T.f_Desk_time.b .nil pass0 rfl) (pa_cons (pv 2) pa_nil))))))) pss_nil) (pss_one (ps_err rfl (takes_of rfl rfl rfl rfl) T.g_NotNow T.x_NotNow rfl)))))), ?_⟩
  walk_at "gg"
  refine ⟨a, _, dx, _, _, rfl, ha, T.cl_Desk, T.na_library, look_lib wv zv l, ?_⟩
  walk_at "gg"
  refine ⟨a, _, dx, _, _, rfl, ha, T.cl_Desk, T.na_zone, look_zone wv zv l, ?_⟩
  walk_at "gg"
  refine if_d (fun w1 => ?_) (fun w1 => ?_)
  · subst w1
    rw [step_inst] at kgood kbad
    walk_at "gg"
    refine ⟨n, rfl, ?_⟩
    walk_at "gg"
    refine if_d (fun c => ?_) (fun c => ?_)
    · rw [if_pos c] at kgood
      walk_at "gg"
      exact ⟨_, _, y, z, n, rfl, D.way, D.zone, hok, fun tv' H1 e1 h1 => kgood _ rfl tv' H1 e1 h1⟩
    · rw [if_neg c] at kbad
      walk_at "gg"
      exact kbad rfl _ e0
  walk_at "gg"
  refine if_d (fun w2 => ?_) (fun w2 => ?_)
  · subst w2
    rw [step_read] at kgood kbad
    walk_at "gg"
    refine ⟨n, rfl, ?_⟩
    walk_at "gg"
    refine if_d (fun c => ?_) (fun c => ?_)
    · rw [if_pos c] at kgood
      walk_at "gg"
      exact ⟨_, _, y, z, n, rfl, D.way, D.zone, hok, fun tv' H1 e1 h1 => kgood _ rfl tv' H1 e1 h1⟩
    · rw [if_neg c] at kbad
      walk_at "gg"
      exact kbad rfl _ e0
  walk_at "gg"
  refine if_d (fun w3 => ?_) (fun w3 => ?_)
  · subst w3
    rw [step_add] at kgood kbad
    walk_at "gg"
    refine ⟨n, rfl, ?_⟩
    walk_at "gg"
    refine if_d (fun c => ?_) (fun c => ?_)
    · walk_at "gg"
      refine ⟨a, dx, _, rfl, ha, a, dx, wv, zv, l, ts, v, rfl, ha, D.lst, hv, ?_⟩
      walk_at "gg"
      refine g_neT (b := none) tv rfl ?_
      walk_at "gg"
      cases cur with
      | none =>
        rw [if_neg fun h => h.2 rfl] at kbad
        walk_at "gg"
        exact kbad rfl _ e0
      | some t =>
        rw [if_pos ⟨c, by simp⟩] at kgood
        walk_at "gg"
        refine ⟨a, dx, _, rfl, ha, a, dx, wv, zv, l, ts, v, rfl, ha, D.lst, hv, ?_⟩
        walk_at "gg"
        exact ⟨_, _, _, y, z, t, n, rfl, D.way, D.zone, hok, tv, good t rfl, fun tv' H1 e1 h1 => kgood _ rfl tv' H1 e1 h1⟩
    · rw [if_neg fun h => c h.1] at kbad
      walk_at "gg"
      exact kbad rfl _ e0
  walk_at "gg"
  exact kbad (step_no w1 w2 w3) _ e0
theorem ok_Desk_run_x (T : Txt w K mg) : FnOk P w K mg base (L2.CX P w) 7 T.f_Desk_run.f T.f_Desk_run.fd ["self", "line"] (sp_Desk_run_x T) := by
  refine T.f_Desk_run.F.ok sc_Desk_run (fun vs H Q E h => ?_) (fun cdv A outer s H vs Q E hr h => ?_)
  · obtain ⟨a, l, x, d, wv, zv, y, z, ts, hist, v, cur, rfl, _⟩ := h
    rfl
  obtain ⟨a, l, x, d, wv, zv, y, z, ts, hist, v, cur, rfl, dv, D, hok, hv, few, tv, good, small, smallI, kT, kS⟩ := h
  obtain ⟨dx, ha⟩ := D.ob
  refine ⟨(tSeq (tDrop (tCall (sp_check_text_x T) [] E (tCons (tVar 1) tNil))) (tSeq (tIfS (tTest (tOp rEq (tVar 1) (tC (.str "show")))) (tRet (tCall (sp_reading_told K) [] E0 (tCons (tProp T.a_Desk (sp_Desk_time T) [] E0 (tVar 0)) tNil))) tNext) (tSeq (tIfS (tTest (tOp rEq (tVar 1) (tC (.str "when")))) (tRet (tCall (sp_instant_told K) [] E0 (tCons (tFld K (tVar 0) "_library") (tCons (tFld K (tVar 0) "_zone") (tCons (tProp T.a_Desk (sp_Desk_time T) [] E0 (tVar 0)) tNil))))) tNext) (tSeq (tAsg (tM1 rStrPart (tVar 1) (tC (.str " "))) (gTup K 3 (gCons (gName 2) (gCons (gName 3) (gCons (gName 4) gNil))))) (tSeq (tAsg (tCall (sp_integer_of K) [] E0 (tCons (tVar 4) tNil)) (gName 5)) (tSeq (tIfS (tOr (tTest (tOp r_isN (tVar 5) (tC .non))) (tTest (tOp (rIn K true) (tVar 2) (tTup (tCons (tC (.str "instant")) (tCons (tC (.str "read")) (tCons (tC (.str "add")) tNil))))))) (fun _ σ H => E (.ref T.e_InvalidText) none H) tNext) (tSeq (tDrop (tBM K "list" rAppend (tFld K (tVar 0) "_times") (tCons (tMeth T.a_Desk "_time_by" (sp_Desk_time_by_x T) [] E (tVar 0) (tCons (tVar 2) (tCons (tVar 5) tNil))) tNil))) (tRet (tC .non))))))))),
    (pss_cons (ps_expr (pe_call (ok_check_text_x T) (hr.mono (by decide)) (by rfl) T.f_check_text.g T.f_check_text.F.kp T.f_check_text.b .nil (passU (takes_of rfl rfl rfl rfl)) (pa_cons (pv 1) pa_nil))) (pss_cons (ps_if (pt_cmpR op_eq (pv 1) pe_str (nomark _)) (pss_one (ps_ret (pe_call (ok_reading_told T) (hr.mono (by decide)) (by rfl) T.f_reading_told.g T.f_reading_told.F.kp T.f_reading_told.b .nil pass0 (pa_cons (pe_prop (pv 0) T.cl_Desk T.pr_Desk_time (ok_Desk_time T) (hr.mono (by decide)) T.f_Desk_time.b .nil pass0 rfl) pa_nil)))) pss_nil) (pss_cons (ps_if (pt_cmpR op_eq (pv 1) pe_str (nomark _)) (pss_one (ps_ret (pe_call (ok_instant_told T) (hr.mono (by decide)) (by rfl) T.f_instant_told.g T.f_instant_told.F.kp T.f_instant_told.b .nil pass0 (pa_cons (pe_fld (pv 0) rfl) (pa_cons (pe_fld (pv 0) rfl) (pa_cons (pe_prop (pv 0) T.cl_Desk T.pr_Desk_time (ok_Desk_time T) (hr.mono (by decide)) T.f_Desk_time.b .nil pass0 rfl) pa_nil)))))) pss_nil) (pss_cons (ps_asg (pe_m1 PySem.F.slot_str_partition PySem.F.type_str_partition mtPart (pv 1) pe_str) (pg_tup rfl (pgs_cons (pg_name (i := 2) sc_Desk_run.nd rfl (Or.inl rfl)) (pgs_cons (pg_name (i := 3) sc_Desk_run.nd rfl (Or.inl rfl)) (pgs_cons (pg_name (i := 4) sc_Desk_run.nd rfl (Or.inl rfl)) pgs_nil))))) (pss_cons (ps_set (i := 5) sc_Desk_run.nd rfl (Or.inl rfl) (pe_call (ok_integer_of T) (hr.mono (by decide)) (by rfl) T.f_integer_of.g T.f_integer_of.F.kp T.f_integer_of.b .nil pass0 (pa_cons (pv 4) pa_nil))) (pss_cons (ps_if (PW.pt (pw_or (pt_cmpR op_isN (pv 5) pe_non (nomark _)) (pw_or1 (pt_cmpR op_notIn_seq (pv 2) (pe_tup (pa_cons pe_str (pa_cons pe_str (pa_cons pe_str pa_nil)))) (by rfl))))) (pss_one (ps_err rfl (takes_of rfl rfl rfl rfl) T.g_InvalidText T.x_InvalidText rfl)) pss_nil) (pss_cons (ps_expr (pe_bm PySem.F.plainAttrs_list PySem.F.slot_list_append PySem.F.type_list_append mt_append (pe_fld (pv 0) rfl) (pa_cons (pe_meth (pv 0) T.cl_Desk T.me_Desk_time_by (ok_Desk_time_by_x T) (hr.mono (by decide)) T.f_Desk_time_by.b .nil (passU (takes_of rfl rfl rfl rfl)) (pa_cons (pv 2) (pa_cons (pv 5) pa_nil))) pa_nil))) (pss_one (ps_ret pe_non))))))))), ?_⟩
  walk_at "gg"
  refine ⟨x, d, rfl, dv, fun hs => ?_, kT⟩
  obtain ⟨t, rfl⟩ : ∃ t, d = .str t := by
    cases d with
    | str t => exact ⟨t, rfl⟩
    | _ => cases hs
  cases dv
  obtain ⟨lt, k1, k2, k3⟩ := kS t rfl
  have sz : 100000 ≤ sizeLine := by decide
  walk_at "gg"
  refine if_d (fun c1 => ?_) (fun c1 => ?_)
  · walk_at "gg"
    refine ⟨a, dx, _, rfl, ha, a, dx, wv, zv, l, ts, v, rfl, ha, D.lst, hv, ?_⟩
    walk_at "gg"
    exact ⟨v, cur, rfl, tv, small, k1 c1⟩
  walk_at "gg"
  refine if_d (fun c2 => ?_) (fun c2 => ?_)
  · walk_at "gg"
    refine ⟨a, _, dx, _, _, rfl, ha, T.cl_Desk, T.na_library, look_lib wv zv l, ?_⟩
    walk_at "gg"
    refine ⟨a, _, dx, _, _, rfl, ha, T.cl_Desk, T.na_zone, look_zone wv zv l, ?_⟩
    walk_at "gg"
    refine ⟨a, dx, _, rfl, ha, a, dx, wv, zv, l, ts, v, rfl, ha, D.lst, hv, ?_⟩
    walk_at "gg"
    exact ⟨_, _, v, y, z, cur, rfl, D.way, D.zone, hok, tv, good, smallI, k2 c2⟩
  obtain ⟨k4, k5⟩ := k3 c1 c2
  have lp := PyProof.Rows.fact_partition t " "
  unfold lineO at k4 k5
  generalize hp : Txt.partition t " " = pt at lp k4 k5
  obtain ⟨p1, p2, p3⟩ := pt
  walk_at "gg"
  refine ⟨t, " ", rfl, rfl, rfl, by omega, fun q nq => ?_⟩
  rw [hp]
  have e1 : Ex H (L2.upd H q (.tup [.str p1, .str p2, .str p3])) := Evl.Ex.new nq
  generalize hH1 : L2.upd H q (.tup [.str p1, .str p2, .str p3]) = H1 at e1
  have h1 : H1 q = some (.tup [.str p1, .str p2, .str p3]) := by rw [← hH1]; exact upd_same
  walk_at "gg"
  refine ⟨p3, rfl, by have := lp.2.2; simp only at this; omega, fun H2 e2 => ?_⟩
  have e02 := e1.trans e2
  simp only at k4 k5
  walk_at "gg"
  cases hn : intOf p3 with
  | none =>
    rw [hn] at k4
    walk_at "gg"
    exact k4 rfl _ e02
  | some n =>
    rw [hn] at k4 k5
    simp only at k4 k5
    walk_at "gg"
    refine g_newT (by simp) fun p4 H3 n3 e3 h3 => ?_
    refine g_niTu (SqT.of h3) rfl rfl ?_
    have e03 := e02.trans e3
    rw [show inV (.str p1) [V.str "instant", .str "read", .str "add"] = isWord3 p1 from inV_strs p1 ["instant", "read", "add"]]
    walk_at "gg"
    cases hw : isWord3 p1 with
    | false =>
      rw [hw, if_neg (by decide)] at k4
      walk_at "gg"
      exact k4 rfl _ e03
    | true =>
      rw [hw, if_pos rfl] at k5
      obtain ⟨kbad, kgood⟩ := k5 p1 n rfl
      have D3 := D.ex e03
      walk_at "gg"
      refine ⟨_, rfl, a, _, dx, _, _, rfl, e03 _ _ ha, T.cl_Desk, T.na_times, look_times wv zv l, .inl ⟨rfl, ts, SqL.of D3.lst⟩, ?_⟩
      walk_at "gg"
      refine ⟨a, dx, _, rfl, e03 _ _ ha, no_by wv zv l, ?_⟩
      walk_at "gg"
      refine ⟨a, l, p1, n, wv, zv, y, z, ts, hist, v, cur, rfl, D3, hok, hv, tv.tr (TrT.of e03), good, fun c H4 e4 => kbad c H4 (e03.trans e4), fun o ho nv H4 e4 h4 => ?_⟩
      walk_at "gg"
      have hl4 := (D3.ex e4).lst
      refine g_app hl4 (by omega) fun H5 eH => ?_
      subst eH
      walk_at "gg"
      refine kgood o ho nv _ ((Fr.of (e03.trans e4)).trans Fr.upd) upd_same (h4.tr (TrT.upd hl4))
end
end
section
open LamX
local macro_rules | `(tactic| walk_at "m") => `(tactic| first
  | with_reducible refine g_m1 ?_
  | with_reducible refine g_isS ?_
  | with_reducible refine g_lcStr ?_
  | with_reducible refine g_join ?_
  | with_reducible refine g_js ?_
  | with_reducible refine g_jsN ?_
  | with_reducible refine g_fmt ?_
  | with_reducible refine g_callLam ?_
  | with_reducible refine g_revT ?_)
local macro_rules | `(tactic| walk_at "m") => `(tactic| first
  | with_reducible refine g_sfld ?_
  | with_reducible refine g_fld ?_
  | with_reducible refine g_meth ?_
  | with_reducible refine g_make ?_
  | with_reducible refine g_prop ?_
  | with_reducible refine g_del ?_)

/-! ### lines, as the law writes them -/
def isLine (word : Str) : Prop := word = "instant" ∨ word = "read" ∨ word = "add"
theorem isLine.len {word : Str} (h : isLine word) : word.length ≤ 10 := by
  rcases h with rfl | rfl | rfl <;> decide +kernel
theorem tl_one : TL.tl (" " : Str) = 32 :: [] := by decide +kernel
theorem isLine.free {word : Str} (h : isLine word) : 32 ∉ TL.tl word := by
  rcases h with rfl | rfl | rfl <;> decide +kernel
theorem isLine.in3 {word : Str} (h : isLine word) : isWord3 word = true := by
  rcases h with rfl | rfl | rfl <;> decide +kernel
theorem line_app {word : Str} {n : Int} (hw : isLine word) (hn : n.natAbs < 10 ^ 9) : lineO (word ++ " " ++ (toString n : Str)) = some (word, n) := by
  unfold lineO
  rw [TL.partition_app tl_one hw.free]
  show (match intOf (toString n : Str) with | none => none | some n => if isWord3 word = true then some (word, n) else none) = _
  rw [intOf_str hn]
  show (if isWord3 word = true then some (word, n) else none) = _
  rw [hw.in3, if_pos rfl]
theorem line_not {word x s : Str} (h : 32 ∉ TL.tl s) : word ++ " " ++ x ≠ s := fun e => by
  rw [← e, TL.tl_append, TL.tl_append, tl_one] at h
  exact h (by simp)
theorem show_free : 32 ∉ TL.tl ("show" : Str) := by decide +kernel
theorem when_free : 32 ∉ TL.tl ("when" : Str) := by decide +kernel
theorem line_len {word : Str} {n : Int} (hw : isLine word) (hn : n.natAbs < 10 ^ 9) : (word ++ " " ++ (toString n : Str)).length ≤ 100 := by
  have h1 := hw.len
  have h2 := str_len hn
  have h3 : (" " : Str).length = 1 := by decide +kernel
  rw [len_app, len_app]
  omega
theorem add_txt : ("add " : Str) = "add" ++ " " := by decide +kernel
/-! ### the lines that are none, and the lines out of bounds -/
def farL : List Str := ["instant 100001", "read -90001", "add 9001", "add -9001", "read 90001", "instant -100001"]
def oddL : List Str := ["", "Show", "show ", "read", "read ", "read 01", "read -0", "add +1", "add 1 1", "instant x", "adds 1", "when?", "undo", "read  1", "read 1234567890", "now"]
theorem oddL_bad : ∀ t ∈ oddL, t ≠ "show" ∧ t ≠ "when" ∧ lineO t = none ∧ t.length ≤ 1000 := by
  have q : (oddL.all fun t => decide (t ≠ "show" ∧ t ≠ "when" ∧ lineO t = none ∧ t.length ≤ 1000)) = true := by decide +kernel
  exact fun t h => of_decide_eq_true (List.all_eq_true.mp q t h)
def farB (t : Str) : Bool := match lineO t with
  | none => false
  | some (word, n) => decide (¬ (word = "instant" ∧ -100000 ≤ n ∧ n ≤ 100000) ∧ ¬ (word = "read" ∧ -90000 ≤ n ∧ n ≤ 90000) ∧ ¬ (word = "add" ∧ (-9000 ≤ n ∧ n ≤ 9000)))
theorem farL_bad : ∀ t ∈ farL, t ≠ "show" ∧ t ≠ "when" ∧ t.length ≤ 1000 ∧ ∃ word n, lineO t = some (word, n) ∧ ∀ y z cur, stepO y z word n cur = none := by
  have q : (farL.all fun t => decide (t ≠ "show" ∧ t ≠ "when" ∧ t.length ≤ 1000) && farB t) = true := by decide +kernel
  intro t h
  have := List.all_eq_true.mp q t h
  rw [Bool.and_eq_true, decide_eq_true_eq] at this
  obtain ⟨⟨h1, h2, h3⟩, h4⟩ := this
  refine ⟨h1, h2, h3, ?_⟩
  unfold farB at h4
  split at h4
  · cases h4
  · rename_i word n e
    refine ⟨word, n, e, fun y z cur => ?_⟩
    obtain ⟨c1, c2, c3⟩ := of_decide_eq_true h4
    unfold stepO
    rw [if_neg c1, if_neg c2, if_neg fun h => c3 ⟨h.1, h.2.1⟩]
/-! ### times stay near -/
def NearO (B : Int) (o : Option Tm) : Prop := ∀ t, o = some t → -B ≤ t.1 ∧ t.1 ≤ B
theorem at_near {y : Way} {z : Zone} (hz : OkZ z) {T B : Int} (h1 : -B ≤ T) (h2 : T ≤ B) : NearO (B + 100) (at_ y z T) := fun t e => by
  have := (at_valid hz e).2
  have := hz.offs T
  omega
theorem read_near {y : Way} {z : Zone} (hz : OkZ z) {T B : Int} (h1 : -B ≤ T) (h2 : T ≤ B) : NearO (B + 200) (read_ y z T) := fun t e => by
  have nb : -15 ≤ before z T ∧ before z T ≤ 15 := hz.offs _
  unfold read_ at e
  split at e
  · split at e
    · have := at_near (B := B + 15) hz (by omega) (by omega) t e
      omega
    · cases e
    · cases e
      exact ⟨by show _ ≤ T; omega, by show T ≤ _; omega⟩
  · split at e
    · cases e
    · cases e
      exact ⟨by show _ ≤ T; omega, by show T ≤ _; omega⟩
theorem add_near {y : Way} {z : Zone} (hz : OkZ z) {o : Option Tm} {d B : Int} (g : GoodT y z o) (h : NearO B o) (h1 : -400 ≤ d) (h2 : d ≤ 400) : NearO (B + 700) (addT y z o d) := by
  cases o with
  | none => exact fun t e => nomatch e
  | some t =>
    have ht := h t rfl
    have hn := inst_near hz (g t rfl)
    intro u e
    have e : (if y.ws then read_ y z (t.1 + d) else at_ y z (inst y z t + d)) = some u := e
    split at e
    · have := read_near (B := B + 400) hz (by omega) (by omega) u e
      omega
    · have := at_near (B := B + 420) hz (by omega) (by omega) u e
      omega
theorem at_good {y : Way} {z : Zone} (hz : OkZ z) {T : Int} : GoodT y z (at_ y z T) := fun _ e => (at_valid hz e).1
theorem read_good {y : Way} {z : Zone} (hz : OkZ z) {T : Int} : GoodT y z (read_ y z T) := fun _ e => read_valid hz e
theorem add_good {y : Way} {z : Zone} (hz : OkZ z) {o : Option Tm} {d : Int} : GoodT y z (addT y z o d) := by
  cases o with
  | none => exact fun t e => nomatch e
  | some t =>
    intro u e
    have e : (if y.ws then read_ y z (t.1 + d) else at_ y z (inst y z t + d)) = some u := e
    split at e
    · exact read_valid hz e
    · exact (at_valid hz e).1
theorem NearO.mono {B C : Int} {o : Option Tm} (h : NearO B o) (l : B ≤ C) : NearO C o := fun t e => by
  have := h t e
  omega
theorem near_small {o : Option Tm} (h : NearO 100000 o) : SmallT o := fun t e => by
  have := h t e
  omega
theorem near_inst {y : Way} {z : Zone} (hz : OkZ z) {o : Option Tm} (h : NearO 100000 o) (g : GoodT y z o) : ∀ t, o = some t → (inst y z t).natAbs < 10 ^ 9 := fun t e => by
  have := h t e
  have := inst_near hz (g t e)
  omega
/-! ### the words of errors -/
def wordsW : List Str := ["zone", "library", "text", "line", "now", "undo"]
structure WrC {w : World} {K : PySem.W.Frag} {mg : Str → Option Value} (T : Txt w K mg) (i : Nat) (C : Addr) : Prop where
  at_ : [T.e_BadZone, T.e_BadLibrary, T.e_NotText, T.e_InvalidText, T.e_NotNow, T.e_NothingToUndo][i]? = some C
  x : ErrC K C
  m : PySem.W.exmOne K (.ref C) (.ref T.e_TimeError) = some true
def TT_law_wrong {w : World} {K : PySem.W.Frag} {mg : Str → Option Value} (T : Txt w K mg) : (Hp → Prop) → (XK → Hp → VK → Prop) → Hp → VK → Prop := fun LA tl H Q => LA H ∧
  ∀ (E : XK) (Qn : VK), (∀ (i : Nat) (C : Addr) (word : Str), WrC T i C → wordsW[i]? = some word → ∀ H', (∀ H'', Ex H' H'' → Q (.str word) H'') → E (.ref C) none H') → tl E H Qn
def posW (i : Nat) : Nat := match i with
  | 0 => 5
  | 1 => 4
  | 2 => 3
  | 3 => 0
  | 4 => 1
  | _ => 2
theorem wr_facts {i : Nat} (h : i < 6) : let ys : List V := [.bl (decide (i = 3)), .bl (decide (i = 4)), .bl (decide (i = 5)), .bl (decide (i = 2)), .bl (decide (i = 1)), .bl (decide (i = 0))]
    ys.countP (fun z => eqV z (.bl true)) = 1 ∧ ys[posW i]? = some (.bl true) ∧ (∀ k, k < posW i → ∀ z, ys[k]? = some z → eqV z (.bl true) = false) := by
  have q : ∀ i, i < 6 → (let ys : List V := [.bl (decide (i = 3)), .bl (decide (i = 4)), .bl (decide (i = 5)), .bl (decide (i = 2)), .bl (decide (i = 1)), .bl (decide (i = 0))]
    (decide (ys.countP (fun z => eqV z (.bl true)) = 1) && ((ys[posW i]? == some (.bl true)) && (List.range (posW i)).all fun k => match ys[k]? with | some z => !eqV z (.bl true) | none => true)) = true) := by decide +kernel
  have q := q i h
  simp only [Bool.and_eq_true, decide_eq_true_eq, beq_iff_eq, List.all_eq_true, List.mem_range] at q
  refine ⟨q.1, q.2.1, fun k hk z hz => ?_⟩
  have := q.2.2 k hk
  rw [hz] at this
  simpa using this
theorem wr_word {i : Nat} {word : Str} (h : wordsW[i]? = some word) : [V.str "line", .str "now", .str "undo", .str "text", .str "library", .str "zone"][posW i]? = some (.str word) := by
  match i, h with
  | 0, h => cases h; rfl
  | 1, h => cases h; rfl
  | 2, h => cases h; rfl
  | 3, h => cases h; rfl
  | 4, h => cases h; rfl
  | 5, h => cases h; rfl
  | i + 6, h => exact absurd (List.getElem?_eq_some_iff.mp h).1 (by show ¬ i + 6 < 6; omega)
theorem gives_law_wrong {X : Cx} {kg : Nat} (T : Txt X.w X.K X.mg) (cdv : Value) : GivesV X ["work", "e", "known"] "_law_wrong" (defScope s_law_wrong) T.f_law_wrong.f cdv (defBody s_law_wrong) "work" (TT_law_wrong T) kg := by
  intro f LA s H Q tl hr act h
  refine ⟨tSeq (fun D σ H => (fun W D σ H => σ[0]? = some (some (.ref f)) ∧ LA H ∧ tl (WE W σ) H (fun _ H1 => D.nx σ H1)) (wAs X.K (.ref T.e_TimeError) 1 (fun a cls d => (tSeq (tAsg (tLst (tCons (tCB (rIsX X.K a cls d) (tCons (tVar 1) (tCons (tC (.ref T.e_InvalidText)) tNil))) (tCons (tCB (rIsX X.K a cls d) (tCons (tVar 1) (tCons (tC (.ref T.e_NotNow)) tNil))) (tCons (tCB (rIsX X.K a cls d) (tCons (tVar 1) (tCons (tC (.ref T.e_NothingToUndo)) tNil))) (tCons (tCB (rIsX X.K a cls d) (tCons (tVar 1) (tCons (tC (.ref T.e_NotText)) tNil))) (tCons (tCB (rIsX X.K a cls d) (tCons (tVar 1) (tCons (tC (.ref T.e_BadLibrary)) tNil))) tNil)))))) (gName 2)) (tSeq (tAsg (tOp rCat (tVar 2) (tLst (tCons (tCB (rIsX X.K a cls d) (tCons (tVar 1) (tCons (tC (.ref T.e_BadZone)) tNil))) tNil))) (gName 2)) (tRet (tIf (tTest (tOp rEq (tBM X.K "list" (rCntF X.K) (tVar 2) (tCons (tC (.bl true)) tNil)) (tC (.int 1)))) (tOp (rIxL X.K) (tLst (tCons (tC (.str "line")) (tCons (tC (.str "now")) (tCons (tC (.str "undo")) (tCons (tC (.str "text")) (tCons (tC (.str "library")) (tCons (tC (.str "zone")) tNil))))))) (tBM X.K "list" (rIndex X.K) (tVar 2) (tCons (tC (.bl true)) tNil))) (tC (.str "other"))))))) (fun _ _ _ _ => False) D) D σ H) (tRet (tC (.str ""))), (pss_cons (X := (cxOf C8.CX0 X.prog X.w X.K X.mg X.base ["work", "e", "known"] "_law_wrong" (defScope s_law_wrong) T.f_law_wrong.f cdv X.A X.stack s H C8.E0).nox) (ps_try_as (X := (cxOf C8.CX0 X.prog X.w X.K X.mg X.base ["work", "e", "known"] "_law_wrong" (defScope s_law_wrong) T.f_law_wrong.f cdv X.A X.stack s H C8.E0).nox) (x := "TimeError") (ts := fun a cls d => (tSeq (tAsg (tLst (tCons (tCB (rIsX X.K a cls d) (tCons (tVar 1) (tCons (tC (.ref T.e_InvalidText)) tNil))) (tCons (tCB (rIsX X.K a cls d) (tCons (tVar 1) (tCons (tC (.ref T.e_NotNow)) tNil))) (tCons (tCB (rIsX X.K a cls d) (tCons (tVar 1) (tCons (tC (.ref T.e_NothingToUndo)) tNil))) (tCons (tCB (rIsX X.K a cls d) (tCons (tVar 1) (tCons (tC (.ref T.e_NotText)) tNil))) (tCons (tCB (rIsX X.K a cls d) (tCons (tVar 1) (tCons (tC (.ref T.e_BadLibrary)) tNil))) tNil)))))) (gName 2)) (tSeq (tAsg (tOp rCat (tVar 2) (tLst (tCons (tCB (rIsX X.K a cls d) (tCons (tVar 1) (tCons (tC (.ref T.e_BadZone)) tNil))) tNil))) (gName 2)) (tRet (tIf (tTest (tOp rEq (tBM X.K "list" (rCntF X.K) (tVar 2) (tCons (tC (.bl true)) tNil)) (tC (.int 1)))) (tOp (rIxL X.K) (tLst (tCons (tC (.str "line")) (tCons (tC (.str "now")) (tCons (tC (.str "undo")) (tCons (tC (.str "text")) (tCons (tC (.str "library")) (tCons (tC (.str "zone")) tNil))))))) (tBM X.K "list" (rIndex X.K) (tVar 2) (tCons (tC (.bl true)) tNil))) (tC (.str "other"))))))) (tb := fun W D σ H => σ[0]? = some (some (.ref f)) ∧ LA H ∧ tl (WE W σ) H (fun _ H1 => D.nx σ H1)) rfl rfl sc_law_wrong.nd rfl rfl ⟨rfl, by decide, .inl T.g_TimeError⟩ L2.takes0
    (fun W pn xe tk _ => pss_one (ps_expr (act W pn xe _ _ tk))) (fun a oe cls d pn hz hf => (pss_cons (ps_set (i := 2) sc_law_wrong.nd rfl (Or.inl rfl) (pe_lst (pa_cons (pe_callB (call_isX hz hf) (by rfl) T.z_isinstance (by decide +kernel) (pa_cons (pv 1) (pa_cons (pe_glob (by rfl) T.g_InvalidText rfl) pa_nil))) (pa_cons (pe_callB (call_isX hz hf) (by rfl) T.z_isinstance (by decide +kernel) (pa_cons (pv 1) (pa_cons (pe_glob (by rfl) T.g_NotNow rfl) pa_nil))) (pa_cons (pe_callB (call_isX hz hf) (by rfl) T.z_isinstance (by decide +kernel) (pa_cons (pv 1) (pa_cons (pe_glob (by rfl) T.g_NothingToUndo rfl) pa_nil))) (pa_cons (pe_callB (call_isX hz hf) (by rfl) T.z_isinstance (by decide +kernel) (pa_cons (pv 1) (pa_cons (pe_glob (by rfl) T.g_NotText rfl) pa_nil))) (pa_cons (pe_callB (call_isX hz hf) (by rfl) T.z_isinstance (by decide +kernel) (pa_cons (pv 1) (pa_cons (pe_glob (by rfl) T.g_BadLibrary rfl) pa_nil))) pa_nil))))))) (pss_cons (ps_set (i := 2) sc_law_wrong.nd rfl (Or.inl rfl) (pe_op op_cat (pv 2) (pe_lst (pa_cons (pe_callB (call_isX hz hf) (by rfl) T.z_isinstance (by decide +kernel) (pa_cons (pv 1) (pa_cons (pe_glob (by rfl) T.g_BadZone rfl) pa_nil))) pa_nil)))) (pss_one (ps_ret (pe_ifExp (pt_cmpR op_eq (pe_bm PySem.F.plainAttrs_list PySem.F.slot_list_count PySem.F.type_list_count mt_countF (pv 2) (pa_cons pe_bl pa_nil)) pe_int (nomark _)) (pe_ix ix_list (pe_lst (pa_cons pe_str (pa_cons pe_str (pa_cons pe_str (pa_cons pe_str (pa_cons pe_str (pa_cons pe_str pa_nil))))))) (pe_bm PySem.F.plainAttrs_list PySem.F.slot_list_index PySem.F.type_list_index mt_index (pv 2) (pa_cons pe_bl pa_nil)) (fun _ _ => rfl)) pe_str))))))) (pss_one (ps_ret pe_str))), ?_⟩

  refine ⟨rfl, h.1, h.2 _ _ (fun i C word hC hw H' q => ?_)⟩
  refine ⟨true, hC.m, fun _ a ha => ?_, fun z => nomatch z⟩
  walk_at "gg"
  refine ⟨C, _, decide (i = 3), rfl, rfl, hC.x.e, rfl, T.kits.at hC.at_ rfl, ?_⟩
  walk_at "gg"
  refine ⟨C, _, decide (i = 4), rfl, rfl, hC.x.e, rfl, T.kits.at hC.at_ rfl, ?_⟩
  walk_at "gg"
  refine ⟨C, _, decide (i = 5), rfl, rfl, hC.x.e, rfl, T.kits.at hC.at_ rfl, ?_⟩
  walk_at "gg"
  refine ⟨C, _, decide (i = 2), rfl, rfl, hC.x.e, rfl, T.kits.at hC.at_ rfl, ?_⟩
  walk_at "gg"
  refine ⟨C, _, decide (i = 1), rfl, rfl, hC.x.e, rfl, T.kits.at hC.at_ rfl, ?_⟩
  walk_at "gg"
  refine g_newL (by simp) fun l1 H1 n1 e1 h1 => ?_
  walk_at "gg"
  refine ⟨C, _, decide (i = 0), rfl, rfl, hC.x.e, rfl, T.kits.at hC.at_ rfl, ?_⟩
  walk_at "gg"
  refine g_newL (by simp) fun l2 H2 n2 e2 h2 => ?_
  walk_at "gg"
  refine g_cat (e2 _ _ h1) h2 (by simp) fun l3 H3 n3 e3 h3 => ?_
  walk_at "gg"
  have hi6 : i < 6 := (List.getElem?_eq_some_iff.mp hw).1
  have f := wr_facts hi6
  have fl : ([V.bl (decide (i = 3)), V.bl (decide (i = 4)), V.bl (decide (i = 5)), V.bl (decide (i = 2)), V.bl (decide (i = 1)), V.bl (decide (i = 0))]).all flatV = true := rfl
  refine g_var (v := .ref l3) rfl ?_
  refine ⟨.inl ⟨rfl, _, SqL.of h3⟩, ?_⟩
  walk_at "gg"
  refine ⟨l3, _, .bl true, rfl, rfl, SqL.of h3, rfl, fl, ?_⟩
  rw [show ((([V.bl (decide (i = 3)), V.bl (decide (i = 4)), V.bl (decide (i = 5)), V.bl (decide (i = 2)), V.bl (decide (i = 1))] ++ [V.bl (decide (i = 0))]).countP fun z => eqV z (.bl true) : Nat) : Int) = 1 from congrArg _ f.1]
  walk_at "gg"
  refine g_newL (by simp) fun l4 H4 n4 e4 h4 => ?_
  walk_at "gg"
  have h3' := e4 _ _ h3
  refine g_var (v := .ref l3) rfl ?_
  refine ⟨.inl ⟨rfl, _, SqL.of h3'⟩, ?_⟩
  walk_at "gg"
  refine ⟨l3, _, .bl true, posW i, .bl true, rfl, rfl, SqL.of h3', rfl, fl, f.2.1, rfl, fun m z hm hz => f.2.2 m hm z hz, ?_⟩
  refine g_ixL (SqL.of h4) (i := (posW i : Int)) (v := .str word) ?_ ?_
  · exact atI_of (by omega) (by
      rw [Int.toNat_natCast]
      exact wr_word hw)
  exact q _ (((e1.trans e2).trans e3).trans e4)
end
section
open LamX
def rAddT : R2 := fun x y H Q => ∃ i j, x = .str i ∧ y = .str j ∧ i.length + j.length ≤ sizeLine ∧ Q (.str (i ++ j)) H
/-! ### lists that grow and shrink at their end -/
theorem pd_snoc {α β : Type} {F : α → β → Prop} {y : β} : ∀ {ys : List β} {xs : List α}, Paired F xs (ys ++ [y]) → ∃ xs' x, xs = xs' ++ [x] ∧ Paired F xs' ys ∧ F x y
  | [], _, .cons r .nil => ⟨[], _, rfl, .nil, r⟩
  | _ :: _, _, .cons r t => by
    obtain ⟨xs', x, rfl, p, f⟩ := pd_snoc t
    exact ⟨_ :: xs', x, rfl, .cons r p, f⟩
/-! ### the desk, the row of draws and the law's own list -/
def Away (K : PySem.W.Frag) (a : Addr) (ns : List Int) (l : Addr) : Prop := a ≠ l ∨ ∀ H : Hp, SqL K H a (ns.map V.int)
theorem Away.of {K : PySem.W.Frag} {H : Hp} {a l : Addr} {ns : List Int} (h : SqL K H a (ns.map V.int)) (n : H l = none) : Away K a ns l := by
  rcases h with (h | ⟨o, h⟩) | h
  · exact .inl fun e => by rw [e, n] at h; cases h
  · exact .inl fun e => by rw [e, n] at h; cases h
  · exact .inr fun G => .inr h
theorem Row.sq {K : PySem.W.Frag} {H : Hp} {r a : Addr} {ns : List Int} (h : Row K H (r, a, ns)) : SqL K H a (ns.map V.int) := by
  obtain ⟨_, _, _, _, k, _⟩ := h
  exact k H Fr.refl
theorem Row.away {K : PySem.W.Frag} {H H' : Hp} {r a l : Addr} {ns : List Int} (h : Row K H (r, a, ns)) (n : l ≠ r) (w : Away K a ns l) (f : Fr l H H') : Row K H' (r, a, ns) := by
  obtain ⟨i, s, t, hr, k, b⟩ := h
  refine ⟨i, s, t, f _ _ (Ne.symm n) hr, fun G g => ?_, b⟩
  rcases w with w | w
  · have key := k (fun x => if x = l then H l else G x) fun x o nx hx => by
      show (if x = l then H l else G x) = some o
      split
      · rename_i e
        rw [← e]
        exact hx
      · rename_i e
        exact g _ _ nx (f _ _ e hx)
    rcases key with (key | ⟨o, key⟩) | key
    · exact .inl (.inl (by
        have key : (if a = l then H l else G a) = _ := key
        rw [if_neg w] at key
        exact key))
    · exact .inl (.inr ⟨o, by
        have key : (if a = l then H l else G a) = _ := key
        rw [if_neg w] at key
        exact key⟩)
    · exact .inr key
  · exact w G
abbrev TAb (K : PySem.W.Frag) : List (Addr × Str) := [((He.cT K ("law", none)).2, "law" ++ ".<locals>." ++ "<lambda>")]
section
variable {w : World} {K : PySem.W.Frag} {mg : Str → Option Value}
theorem DeskAt.extN {T : Txt w K mg} {H H' : Hp} {a l : Addr} {wv zv : V} {y : Way} {z : Zone} {ts : List V} {hist : List (Option Tm)} (d : DeskAt T H a l wv zv y z ts hist) (e : ExtN H H') : DeskAt T H' a l wv zv y z ts hist := by
  obtain ⟨dx, h⟩ := d.ob
  exact ⟨⟨dx, e _ _ h (fun _ z => nomatch z)⟩, e _ _ d.lst (fun _ z => nomatch z), L2.Paired.mapP d.pd fun _ _ q => q.tr (TrT.extN e), d.way.tr (TrT.extN e), d.zone.tr (TrT.extN e)⟩
structure Dk (T : Txt w K mg) (r a : Addr) (ns : List Int) (x l pl : Addr) (wv zv : V) (y : Way) (z : Zone) (H : Hp) (ts : List V) (hist : List (Option Tm)) (ps : List V) (ph : List (Option Tm)) (ov : V) (cur : Option Tm) : Prop where
  row : Row K H (r, a, ns)
  tabs : Tabs (TAb K) H
  desk : DeskAt T H x l wv zv y z ts hist
  pst : H pl = some (.lst ps)
  pd : Paired (TV K H) ps ph
  own : TV K H ov cur
  n1 : l ≠ r
  n2 : pl ≠ r
  n3 : pl ≠ l
  aw1 : Away K a ns l
  aw2 : Away K a ns pl
section
variable {T : Txt w K mg} {r a : Addr} {ns : List Int} {x l pl : Addr} {wv zv : V} {y : Way} {z : Zone} {H H' : Hp} {ts ts' : List V} {hist hist' : List (Option Tm)} {ps ps' : List V} {ph ph' : List (Option Tm)} {ov ov' : V} {cur cur' : Option Tm}
theorem Dk.fr (d : Dk T r a ns x l pl wv zv y z H ts hist ps ph ov cur) (f : Fr r H H') (R : Row K H' (r, a, ns)) : Dk T r a ns x l pl wv zv y z H' ts hist ps ph ov cur := by
  obtain ⟨xs, q⟩ := d.row.lst
  have t := d.row.tr f
  exact ⟨R, tabs_keep d.tabs q f, d.desk.fr q d.n1 f, f _ _ d.n2 d.pst, L2.Paired.mapP d.pd fun _ _ q => q.tr t, d.own.tr t, d.n1, d.n2, d.n3, d.aw1, d.aw2⟩
theorem Dk.ex (d : Dk T r a ns x l pl wv zv y z H ts hist ps ph ov cur) (e : Ex H H') : Dk T r a ns x l pl wv zv y z H' ts hist ps ph ov cur := d.fr (Fr.of e) (d.row.ex e)
theorem Dk.extN (d : Dk T r a ns x l pl wv zv y z H ts hist ps ph ov cur) (e : ExtN H H') (t : Tabs (TAb K) H') : Dk T r a ns x l pl wv zv y z H' ts hist ps ph ov cur :=
  ⟨d.row.extN e, t, d.desk.extN e, e _ _ d.pst (fun _ z => nomatch z), L2.Paired.mapP d.pd fun _ _ q => q.tr (TrT.extN e), d.own.tr (TrT.extN e), d.n1, d.n2, d.n3, d.aw1, d.aw2⟩
/-- the desk's list has changed -/
theorem Dk.now (d : Dk T r a ns x l pl wv zv y z H ts hist ps ph ov cur) (f : Fr l H H') (q : H' l = some (.lst ts')) (p : Paired (TV K H') ts' hist') : Dk T r a ns x l pl wv zv y z H' ts' hist' ps ph ov cur :=
  have t := TrT.fr d.desk.lst f
  ⟨d.row.away d.n1 d.aw1 f, tabs_keep d.tabs d.desk.lst f, d.desk.now f q p, f _ _ d.n3 d.pst, L2.Paired.mapP d.pd fun _ _ q => q.tr t, d.own.tr t, d.n1, d.n2, d.n3, d.aw1, d.aw2⟩
/-- the law's own list has changed -/
theorem Dk.past (d : Dk T r a ns x l pl wv zv y z H ts hist ps ph ov cur) (f : Fr pl H H') (q : H' pl = some (.lst ps')) (p : Paired (TV K H') ps' ph') : Dk T r a ns x l pl wv zv y z H' ts hist ps' ph' ov cur :=
  have t := TrT.fr d.pst f
  ⟨d.row.away d.n2 d.aw2 f, tabs_keep d.tabs d.pst f, d.desk.fr d.pst (Ne.symm d.n3) f, q, p, d.own.tr t, d.n1, d.n2, d.n3, d.aw1, d.aw2⟩
theorem Dk.set (d : Dk T r a ns x l pl wv zv y z H ts hist ps ph ov cur) (h : TV K H ov' cur') : Dk T r a ns x l pl wv zv y z H ts hist ps ph ov' cur' := ⟨d.row, d.tabs, d.desk, d.pst, d.pd, h, d.n1, d.n2, d.n3, d.aw1, d.aw2⟩
end
theorem fits_encT (o : Option Tm) : fits 1 (encT o) = true := by cases o <;> rfl
theorem dp_times {H : Hp} {xs : List V} {hs : List (Option Tm)} (h : Paired (TV K H) xs hs) : DpAll K H xs (hs.map encT) := pd_dpAll (pd_map (fun _ _ q => q.dp) h)
theorem sh_times {hs : List (Option Tm)} : ∀ d ∈ hs.map encT, sh 5 d := fun d hd => by
  obtain ⟨o, _, rfl⟩ := List.mem_map.mp hd
  have q := sh_encT (o := o)
  exact ⟨q.1, by have := q.2; omega⟩
end
end
section
open LamX
local macro_rules | `(tactic| walk_at "m") => `(tactic| first
  | with_reducible refine g_m1 ?_
  | with_reducible refine g_isS ?_
  | with_reducible refine g_lcStr ?_
  | with_reducible refine g_join ?_
  | with_reducible refine g_js ?_
  | with_reducible refine g_jsN ?_
  | with_reducible refine g_fmt ?_
  | with_reducible refine g_callLam ?_
  | with_reducible refine g_revT ?_)
local macro_rules | `(tactic| walk_at "m") => `(tactic| first
  | with_reducible refine g_sfld ?_
  | with_reducible refine g_fld ?_
  | with_reducible refine g_meth ?_
  | with_reducible refine g_make ?_
  | with_reducible refine g_prop ?_
  | with_reducible refine g_del ?_)

def sp_lawT (K : PySem.W.Frag) : Sp := fun vs H Q _ => ∃ (a : Addr) (ns : List Int), vs = [.ref a] ∧ SqL K H a (ns.map V.int) ∧ ns.length ≤ 63 ∧ H (He.cT K ("law", none)).2 = some (.tbl #[]) ∧ ∀ H', Q (.bl true) H'
theorem g_cut4 {P : L2.St → Hp → Prop} {s0 s1 s2 s3 rest : TS} {D : Ends} {σ : L2.St} {H : Hp} (h1 : ∀ rest' : TS, (∀ σ H, P σ H → rest' D σ H) → tSeq s0 (tSeq s1 (tSeq s2 (tSeq s3 rest'))) D σ H) (h2 : ∀ σ H, P σ H → rest D σ H) : tSeq s0 (tSeq s1 (tSeq s2 (tSeq s3 rest))) D σ H := h1 rest h2
theorem g_cut3 {P : L2.St → Hp → Prop} {s0 s1 s2 rest : TS} {D : Ends} {σ : L2.St} {H : Hp} (h1 : ∀ rest' : TS, (∀ σ H, P σ H → rest' D σ H) → tSeq s0 (tSeq s1 (tSeq s2 rest')) D σ H) (h2 : ∀ σ H, P σ H → rest D σ H) : tSeq s0 (tSeq s1 (tSeq s2 rest)) D σ H := h1 rest h2
theorem g_cut2 {P : L2.St → Hp → Prop} {s0 s1 rest : TS} {D : Ends} {σ : L2.St} {H : Hp} (h1 : ∀ rest' : TS, (∀ σ H, P σ H → rest' D σ H) → tSeq s0 (tSeq s1 rest') D σ H) (h2 : ∀ σ H, P σ H → rest D σ H) : tSeq s0 (tSeq s1 rest) D σ H := h1 rest h2
theorem g_cut1 {P : L2.St → Hp → Prop} {s0 rest : TS} {D : Ends} {σ : L2.St} {H : Hp} (h1 : ∀ rest' : TS, (∀ σ H, P σ H → rest' D σ H) → tSeq s0 rest' D σ H) (h2 : ∀ σ H, P σ H → rest D σ H) : tSeq s0 rest D σ H := h1 rest h2
/-- the desk's list is the law's list and the time now; all its times are near -/
def InvD {w : World} {K : PySem.W.Frag} {mg : Str → Option Value} (T : Txt w K mg) (r a : Addr) (ns : List Int) (x l pl : Addr) (wv zv : V) (y : Way) (z : Zone) (i : Nat) (H : Hp) (ov : V) (cur : Option Tm) : Prop :=
  OkZ z ∧ ∃ ts ps ph, Dk T r a ns x l pl wv zv y z H ts (ph ++ [cur]) ps ph ov cur ∧ ph.length ≤ i ∧ ∀ o ∈ ph ++ [cur], GoodT y z o ∧ NearO (3000 + 1000 * i) o
section
variable {w : World} {K : PySem.W.Frag} {mg : Str → Option Value} {T : Txt w K mg} {r a : Addr} {ns : List Int} {x l pl : Addr} {wv zv : V} {y : Way} {z : Zone} {i : Nat} {H H' : Hp} {ov : V} {cur : Option Tm}
theorem InvD.ex (d : InvD T r a ns x l pl wv zv y z i H ov cur) (e : Ex H H') : InvD T r a ns x l pl wv zv y z i H' ov cur := by
  obtain ⟨hz, ts, ps, ph, D, h⟩ := d
  exact ⟨hz, ts, ps, ph, D.ex e, h⟩
theorem InvD.fr (d : InvD T r a ns x l pl wv zv y z i H ov cur) (f : Fr r H H') (R : Row K H' (r, a, ns)) : InvD T r a ns x l pl wv zv y z i H' ov cur := by
  obtain ⟨hz, ts, ps, ph, D, h⟩ := d
  exact ⟨hz, ts, ps, ph, D.fr f R, h⟩
theorem InvD.extN (d : InvD T r a ns x l pl wv zv y z i H ov cur) (e : ExtN H H') (t : Tabs (TAb K) H') : InvD T r a ns x l pl wv zv y z i H' ov cur := by
  obtain ⟨hz, ts, ps, ph, D, h⟩ := d
  exact ⟨hz, ts, ps, ph, D.extN e t, h⟩
theorem InvD.row (d : InvD T r a ns x l pl wv zv y z i H ov cur) : Row K H (r, a, ns) := by
  obtain ⟨_, _, _, _, D, _⟩ := d
  exact D.row
theorem InvD.tabs (d : InvD T r a ns x l pl wv zv y z i H ov cur) : Tabs (TAb K) H := by
  obtain ⟨_, _, _, _, D, _⟩ := d
  exact D.tabs
theorem InvD.way (d : InvD T r a ns x l pl wv zv y z i H ov cur) : WayV K H wv y := by
  obtain ⟨_, _, _, _, D, _⟩ := d
  exact D.desk.way
theorem InvD.zone (d : InvD T r a ns x l pl wv zv y z i H ov cur) : ZV K H zv z := by
  obtain ⟨_, _, _, _, D, _⟩ := d
  exact D.desk.zone
theorem InvD.own (d : InvD T r a ns x l pl wv zv y z i H ov cur) : TV K H ov cur := by
  obtain ⟨_, _, _, _, D, _⟩ := d
  exact D.own
theorem InvD.good (d : InvD T r a ns x l pl wv zv y z i H ov cur) : GoodT y z cur := by
  obtain ⟨_, _, _, _, D, _, h⟩ := d
  exact (h cur (by simp)).1
theorem InvD.near (d : InvD T r a ns x l pl wv zv y z i H ov cur) : NearO (3000 + 1000 * i) cur := by
  obtain ⟨_, _, _, _, D, _, h⟩ := d
  exact (h cur (by simp)).2
/-- what the desk's methods ask -/
theorem InvD.ask (d : InvD T r a ns x l pl wv zv y z i H ov cur) (hi : i ≤ 50) : ∃ (dx : Addr) (ts : List V) (hist : List (Option Tm)) (v : V), H x = some (.ins T.a_Desk dx (dkF wv zv l)) ∧ H l = some (.lst ts) ∧ DeskAt T H x l wv zv y z ts hist ∧ ts.getLast? = some v ∧ ts.length ≤ 1000 ∧ 1 ≤ ts.length ∧
    TV K H v cur ∧ SmallT cur ∧ ∀ t, cur = some t → (inst y z t).natAbs < 10 ^ 9 := by
  have near := d.near
  have good := d.good
  obtain ⟨hz, ts, ps, ph, D, h, _⟩ := d
  obtain ⟨dx, hx⟩ := D.desk.ob
  obtain ⟨xs', v, e, _, hv⟩ := pd_snoc D.desk.pd
  have lt := Paired.length D.desk.pd
  rw [List.length_append, List.length_singleton] at lt
  have n5 := near.mono (C := 100000) (by omega)
  refine ⟨dx, ts, _, v, hx, D.desk.lst, D.desk, by rw [e]; simp, by omega, by omega, hv, near_small n5, near_inst hz n5 good⟩
end
theorem fits_enc (o : Option Tm) : fits 4 (encT o) = true := by cases o <;> rfl
theorem g_and2 {k : Bool} {σ : L2.St} {H : Hp} {tx : TT} {A BC : Hp → Prop} (G : Hp → Prop) (h0 : k = false → G H) (h1 : k = true → ∀ BC' : Hp → Prop, (∀ H, G H → BC' H) → tx σ H fun k2 H1 => if k2 = true then A H1 else BC' H1) (h2 : ∀ H, G H → BC H) :
    if k = true then tx σ H (fun k2 H1 => if k2 = true then A H1 else BC H1) else BC H := by
  cases k with
  | true => rw [if_pos rfl]; exact h1 rfl BC h2
  | false => rw [if_neg (by decide)]; exact h2 H (h0 rfl)
def dueO (y : Way) (z : Zone) (word : Str) (n : Int) (cur : Option Tm) : Option Tm := if word = "add" then addT y z cur n else if word = "instant" then at_ y z n else read_ y z n
theorem step_due {y : Way} {z : Zone} {word : Str} {n : Int} {cur : Option Tm} (hw : isLine word) (c1 : -2000 ≤ n) (c2 : n ≤ 2000) (h : word = "add" → cur ≠ none) : stepO y z word n cur = some (dueO y z word n cur) := by
  unfold dueO
  rcases hw with rfl | rfl | rfl
  · rw [step_inst, if_pos (by omega), if_neg (by decide +kernel), if_pos rfl]
  · rw [step_read, if_pos (by omega), if_neg (by decide +kernel), if_neg (by decide +kernel)]
  · rw [step_add, if_pos ⟨by omega, h rfl⟩, if_pos rfl]
theorem step_none {y : Way} {z : Zone} {n : Int} : stepO y z "add" n none = none := by
  rw [step_add, if_neg fun h => h.2 rfl]
theorem due_good {y : Way} {z : Zone} (hz : OkZ z) {word : Str} {n : Int} {cur : Option Tm} {i : Nat} (g : GoodT y z cur) (h : NearO (3000 + 1000 * i) cur) (c1 : -2000 ≤ n) (c2 : n ≤ 2000) (c3 : word = "add" → -400 ≤ n ∧ n ≤ 400) : GoodT y z (dueO y z word n cur) ∧ NearO (3000 + 1000 * (i + 1 : Nat)) (dueO y z word n cur) := by
  unfold dueO
  split
  · rename_i e
    exact ⟨add_good hz, (add_near hz g h (c3 e).1 (c3 e).2).mono (by omega)⟩
  · split
    · exact ⟨at_good hz, (at_near (B := 2000) hz (by omega) (by omega)).mono (by omega)⟩
    · exact ⟨read_good hz, (read_near (B := 2000) hz (by omega) (by omega)).mono (by omega)⟩
/-- the desk has done a line, the law not yet -/
def InvM {w : World} {K : PySem.W.Frag} {mg : Str → Option Value} (T : Txt w K mg) (r a : Addr) (ns : List Int) (x l pl : Addr) (wv zv : V) (y : Way) (z : Zone) (i : Nat) (H : Hp) (ov : V) (cur o : Option Tm) : Prop :=
  OkZ z ∧ ∃ ts ps ph, Dk T r a ns x l pl wv zv y z H ts (ph ++ [cur] ++ [o]) ps ph ov cur ∧ ph.length ≤ i ∧ ∀ o ∈ ph ++ [cur], GoodT y z o ∧ NearO (3000 + 1000 * i) o
section
variable {w : World} {K : PySem.W.Frag} {mg : Str → Option Value} {T : Txt w K mg} {r a : Addr} {ns : List Int} {x l pl : Addr} {wv zv : V} {y : Way} {z : Zone} {i : Nat} {H H' : Hp} {ov : V} {cur : Option Tm}
theorem run_line (I : InvD T r a ns x l pl wv zv y z i H ov cur) (hi : i ≤ 50) {word : Str} {n : Int} (hw : isLine word) (hn : n.natAbs < 10 ^ 9) {Q : VK} {E : XK} (kbad : stepO y z word n cur = none → ∀ H', Ex H H' → E (.ref T.e_NotNow) none H')
    (kgood : ∀ o, stepO y z word n cur = some o → ∀ H', InvM T r a ns x l pl wv zv y z i H' ov cur o → Q .non H') : sp_Desk_run_x T [.ref x, .str (word ++ " " ++ (toString n : Str))] H Q E := by
  have near := I.near.mono (C := 100000) (by omega)
  have good := I.good
  obtain ⟨hz, ts, ps, ph, D, lp, hg⟩ := I
  obtain ⟨xs', v, e, _, hv⟩ := pd_snoc D.desk.pd
  have lt := Paired.length D.desk.pd
  rw [List.length_append, List.length_singleton] at lt
  refine ⟨x, l, _, _, wv, zv, y, z, ts, _, v, cur, rfl, .str _, D.desk, hz, by rw [e]; simp, by omega, hv, good, near_small near, near_inst hz near good, (fun h => nomatch h), fun t ht => ?_⟩
  cases ht
  refine ⟨Nat.le_trans (line_len hw hn) (by decide), fun h => absurd h (line_not show_free), fun h => absurd h (line_not when_free), fun _ _ => ⟨fun h => ?_, fun word' n' h => ?_⟩⟩
  · rw [line_app hw hn] at h
    cases h
  · rw [line_app hw hn] at h
    cases h
    refine ⟨kbad, fun o ho tv H' f q hv' => kgood o ho H' ?_⟩
    exact ⟨hz, _, _, _, D.now f q (pd_app (L2.Paired.mapP D.desk.pd fun _ _ q => q.tr (TrT.fr D.desk.lst f)) (.cons hv' .nil)), lp, hg⟩
end
theorem InvD.up {w : World} {K : PySem.W.Frag} {mg : Str → Option Value} {T : Txt w K mg} {r a : Addr} {ns : List Int} {x l pl : Addr} {wv zv : V} {y : Way} {z : Zone} {i j : Nat} {H : Hp} {ov : V} {cur : Option Tm}
    (d : InvD T r a ns x l pl wv zv y z i H ov cur) (h : i ≤ j) : InvD T r a ns x l pl wv zv y z j H ov cur := by
  obtain ⟨hz, ts, ps, ph, D, lp, hg⟩ := d
  exact ⟨hz, ts, ps, ph, D, by omega, fun o ho => ⟨(hg o ho).1, (hg o ho).2.mono (by omega)⟩⟩
section
variable {w : World} {K : PySem.W.Frag} {mg : Str → Option Value} {T : Txt w K mg} {r a : Addr} {ns : List Int} {x l pl : Addr} {wv zv : V} {y : Way} {z : Zone} {i : Nat} {H H' : Hp} {ov : V} {cur : Option Tm}
theorem show_when : ¬ (("show" : Str) = "when") := by decide +kernel
theorem when_show : ¬ (("when" : Str) = "show") := by decide +kernel
theorem run_show (I : InvD T r a ns x l pl wv zv y z i H ov cur) (hi : i ≤ 50) {Q : VK} {E : XK} (k : ∀ H', Ex H H' → Q (.str (toldR cur)) H') : sp_Desk_run_x T [.ref x, .str "show"] H Q E := by
  obtain ⟨dx, ts, hist, v, hx, hl, D, hv, few, one, tv, sm, si⟩ := I.ask hi
  refine ⟨x, l, _, _, wv, zv, y, z, ts, _, v, cur, rfl, .str _, D, I.1, hv, few, tv, I.good, sm, si, (fun h => nomatch h), fun t ht => ?_⟩
  cases ht
  exact ⟨by decide +kernel, fun _ => k, fun h => absurd h show_when, fun h => absurd rfl h⟩
theorem run_when (I : InvD T r a ns x l pl wv zv y z i H ov cur) (hi : i ≤ 50) {Q : VK} {E : XK} (k : ∀ H', Ex H H' → Q (.str (toldI y z cur)) H') : sp_Desk_run_x T [.ref x, .str "when"] H Q E := by
  obtain ⟨dx, ts, hist, v, hx, hl, D, hv, few, one, tv, sm, si⟩ := I.ask hi
  refine ⟨x, l, _, _, wv, zv, y, z, ts, _, v, cur, rfl, .str _, D, I.1, hv, few, tv, I.good, sm, si, (fun h => nomatch h), fun t ht => ?_⟩
  cases ht
  exact ⟨by decide +kernel, fun h => absurd h when_show, fun _ => k, fun _ h => absurd rfl h⟩
end
section
variable {w : World} {K : PySem.W.Frag} {mg : Str → Option Value} {T : Txt w K mg} {r a : Addr} {ns : List Int} {x l pl : Addr} {wv zv : V} {y : Way} {z : Zone} {i : Nat} {H H' : Hp} {ov : V} {cur : Option Tm}
theorem run_far (I : InvD T r a ns x l pl wv zv y z i H ov cur) (hi : i ≤ 50) {s : Str} (hs : s ∈ farL) {Q : VK} {E : XK} (k : ∀ H', Ex H H' → E (.ref T.e_NotNow) none H') : sp_Desk_run_x T [.ref x, .str s] H Q E := by
  obtain ⟨dx, ts, hist, v, hx, hl, D, hv, few, one, tv, sm, si⟩ := I.ask hi
  obtain ⟨n1, n2, n3, word, n, e, bad⟩ := farL_bad s hs
  refine ⟨x, l, _, _, wv, zv, y, z, ts, _, v, cur, rfl, .str _, D, I.1, hv, few, tv, I.good, sm, si, (fun h => nomatch h), fun t ht => ?_⟩
  cases ht
  refine ⟨n3, fun h => absurd h n1, fun h => absurd h n2, fun _ _ => ⟨fun h => absurd (e.symm.trans h) (fun h => nomatch h), fun word' n' h => ?_⟩⟩
  cases e.symm.trans h
  exact ⟨fun _ => k, fun o ho => absurd ((bad y z cur).symm.trans ho) (fun h => nomatch h)⟩
theorem run_odd (I : InvD T r a ns x l pl wv zv y z i H ov cur) (hi : i ≤ 50) {s : Str} (hs : s ∈ oddL) {Q : VK} {E : XK} (k : ∀ H', Ex H H' → E (.ref T.e_InvalidText) none H') : sp_Desk_run_x T [.ref x, .str s] H Q E := by
  obtain ⟨dx, ts, hist, v, hx, hl, D, hv, few, one, tv, sm, si⟩ := I.ask hi
  obtain ⟨n1, n2, n3, n4⟩ := oddL_bad s hs
  refine ⟨x, l, _, _, wv, zv, y, z, ts, _, v, cur, rfl, .str _, D, I.1, hv, few, tv, I.good, sm, si, (fun h => nomatch h), fun t ht => ?_⟩
  cases ht
  exact ⟨n4, fun h => absurd h n1, fun h => absurd h n2, fun _ _ => ⟨fun _ => k, fun word' n' h => absurd (n3.symm.trans h) (fun h => nomatch h)⟩⟩
theorem run_not (I : InvD T r a ns x l pl wv zv y z i H ov cur) (hi : i ≤ 50) {s : V} {d : PyData} (hs : DaV K H s d) (nd : isStrD d = false) {Q : VK} {E : XK} (k : E (.ref T.e_NotText) none H) : sp_Desk_run_x T [.ref x, s] H Q E := by
  obtain ⟨dx, ts, hist, v, hx, hl, D, hv, few, one, tv, sm, si⟩ := I.ask hi
  exact ⟨x, l, _, d, wv, zv, y, z, ts, _, v, cur, rfl, hs, D, I.1, hv, few, tv, I.good, sm, si, fun _ => k, fun t ht => by rw [ht] at nd; cases nd⟩
end
section
variable {P : Program} {w : World} {K : PySem.W.Frag} {mg : Str → Option Value} {base : Heap}
theorem ok_law (T : Txt w K mg) (hf : He.fAd K ("law", none) = T.f_law.f) (TB : TabB base mg (He.cT K ("law", none)).1 (He.cT K ("law", none)).2) :
    FnOk P w K mg base CX0 11 T.f_law.f T.f_law.fd ["script"] (sp_lawT K) := by
  refine fnC (p := ("law", none)) T.f_law.F hf sc_law (fun vs H Q E h => ?_) (fun A outer s H vs Q E hr h => ?_)
  · obtain ⟨a, ns, rfl, _⟩ := h
    rfl
  obtain ⟨a, ns, rfl, hs, h63, hP, k⟩ := h
  refine ⟨(tSeq (tAsg (tLst (tCons (tVar 0) (tCons (tC (.int 0)) (tCons (tC (.int 15350)) (tCons (tC (.int 0)) tNil))))) (gName 1)) (tSeq (tAsg (tTup (tCons (tCall (sp_law_library K) [] E0 (tCons (tVar 1) tNil)) (tCons (tCall (sp_law_zone K) [] E0 (tCons (tVar 1) (tCons (tCall (sp_law_pick K) [] E0 (tCons (tVar 1) (tCons (tLst (tCons (tC (.str "fixed")) (tCons (tC (.str "skips")) (tCons (tC (.str "repeats")) (tCons (tC (.str "both")) (tCons (tC (.str "both")) tNil)))))) tNil))) tNil))) tNil))) (gTup K 2 (gCons (gName 2) (gCons (gName 3) gNil)))) (tSeq (tAsg (tTup (tCons (tMake T.a_Desk (sp_Desk_init_x T) [] E0 (tCons (tVar 2) (tCons (tVar 3) tNil))) (tCons (tCall (sp_law_at K) [] E0 (tCons (tVar 2) (tCons (tVar 3) (tCons (tOp (rI0 fun i j => .int (i - j)) (tC (.int 0)) (tC (.int 500))) tNil)))) (tCons (tLst tNil) tNil)))) (gTup K 3 (gCons (gName 4) (gCons (gName 5) (gCons (gName 6) gNil))))) (tSeq (tIfS (tOr (tTest (tOp rNe (tCallLam _ _ [((lwOf (eArg (eArg (eArg (sVal (sBody s_law 3)) 0) 0) 0)), none, fun E => (tMeth T.a_Desk "undo" (sp_Desk_undo_x T) [] E (tVar 4) tNil))] (TT_law_wrong T) (tLamV _ _ (lwOf (eArg (eArg (eArg (sVal (sBody s_law 3)) 0) 0) 0)) _ none)) (tC (.str "undo")))) (tNot (tB (tCall (sp_law_alike K 5) [] E0 (tCons (tProp T.a_Desk (sp_Desk_time T) [] E0 (tVar 4)) (tCons (tVar 5) tNil)))))) (tRet (tC (.bl false))) tNext) (tSeq (tFor (iRng1 (tCons (tOp (rI0 fun i j => .int (i + j)) (tC (.int 3)) (tCall (sp_law_taken K) [] E0 (tCons (tVar 1) (tCons (tC (.int 8)) tNil)))) tNil)) (gName 7) (tSeq (tAsg (tTup (tCons (tCall (sp_law_pick K) [] E0 (tCons (tVar 1) (tCons (tLst (tCons (tC (.str "instant")) (tCons (tC (.str "read")) (tCons (tC (.str "read")) (tCons (tC (.str "add")) (tCons (tC (.str "add")) (tCons (tC (.str "add")) tNil))))))) tNil))) (tCons (tCall (sp_law_spot K) [] E0 (tCons (tVar 1) (tCons (tVar 3) tNil))) tNil))) (gTup K 2 (gCons (gName 8) (gCons (gName 9) gNil)))) (tSeq (tAsg (tIf (tTest (tOp rEq (tVar 8) (tC (.str "add")))) (tCall (sp_law_hours K) [] E0 (tCons (tVar 1) tNil)) (tVar 9)) (gName 9)) (tSeq (tIfS (tAnd (tTest (tOp (rNeD K) (tVar 6) (tLst tNil))) (tTest (tOp rEq (tCall (sp_law_taken K) [] E0 (tCons (tVar 1) (tCons (tC (.int 5)) tNil))) (tC (.int 0))))) (tSeq (tIfS (tTest (tOp r_notN (tMeth T.a_Desk "undo" (sp_Desk_undo_x T) [] E0 (tVar 4) tNil) (tC .non))) (tRet (tC (.bl false))) tNext) (tAsg (tBM0 K "list" rPop (tVar 6)) (gName 5))) (tIfS (tAnd (tTest (tOp rEq (tVar 8) (tC (.str "add")))) (tTest (tOp (rEqD K) (tVar 5) (tC (.str "refused"))))) (tIfS (tTest (tOp rNe (tCallLam _ _ [((lwOf (eArg (eArg (sVal (sBody (sElse (sBody (sBody s_law 4) 2) 0) 0)) 0) 0)), none, fun E => (tMeth T.a_Desk "run" (sp_Desk_run_x T) [] E (tVar 4) (tCons (tOp rAddT (tC (.str "add ")) (tCB rStrInt (tCons (tVar 9) tNil))) tNil)))] (TT_law_wrong T) (tLamV _ _ (lwOf (eArg (eArg (sVal (sBody (sElse (sBody (sBody s_law 4) 2) 0) 0)) 0) 0)) _ none)) (tC (.str "now")))) (tRet (tC (.bl false))) tNext) (tSeq (tIfS (tTest (tOp r_notN (tMeth T.a_Desk "run" (sp_Desk_run_x T) [] E0 (tVar 4) (tCons (tOp rAddT (tOp rAddT (tVar 8) (tC (.str " "))) (tCB rStrInt (tCons (tVar 9) tNil))) tNil)) (tC .non))) (tRet (tC (.bl false))) tNext) (tSeq (tDrop (tBM K "list" rAppend (tVar 6) (tCons (tVar 5) tNil))) (tSeq (tAsg (tIf (tTest (tOp rEq (tVar 8) (tC (.str "instant")))) (tCall (sp_law_at K) [] E0 (tCons (tVar 2) (tCons (tVar 3) (tCons (tVar 9) tNil)))) (tCall (sp_law_read K) [] E0 (tCons (tVar 2) (tCons (tVar 3) (tCons (tVar 9) tNil))))) (gName 10)) (tAsg (tIf (tTest (tOp rEq (tVar 8) (tC (.str "add")))) (tCall (sp_law_add K) [] E0 (tCons (tVar 2) (tCons (tVar 3) (tCons (tVar 5) (tCons (tVar 9) tNil))))) (tVar 10)) (gName 5))))))) (tSeq (tAsg (tIf (tTest (tOp (rEqD K) (tVar 5) (tC (.str "refused")))) (tVar 5) (tOp rAddT (tCB rStrInt (tCons (tOp (rIxT K) (tVar 5) (tC (.int 0))) tNil)) (tOp rMulS (tC (.str "'")) (tOp (rIxT K) (tVar 5) (tC (.int 1)))))) (gName 11)) (tSeq (tIfS (tOr (tNot (tB (tCall (sp_law_alike K 5) [] E0 (tCons (tProp T.a_Desk (sp_Desk_time T) [] E0 (tVar 4)) (tCons (tVar 5) tNil))))) (tTest (tOp rNe (tMeth T.a_Desk "run" (sp_Desk_run_x T) [] E0 (tVar 4) (tCons (tC (.str "show")) tNil)) (tVar 11)))) (tRet (tC (.bl false))) tNext) (tIfS (tTest (tOp rNe (tMeth T.a_Desk "run" (sp_Desk_run_x T) [] E0 (tVar 4) (tCons (tC (.str "when")) tNil)) (tIf (tTest (tOp (rEqD K) (tVar 5) (tC (.str "refused")))) (tC (.str "refused")) (tCB rStrInt (tCons (tCall (sp_law_instant K) [] E0 (tCons (tVar 2) (tCons (tVar 3) (tCons (tVar 5) tNil)))) tNil))))) (tRet (tC (.bl false))) tNext))))))) (tSeq (tAsg (tCall (sp_law_pick K) [] E0 (tCons (tVar 1) (tCons (tLst (tCons (tC (.str "instant 100001")) (tCons (tC (.str "read -90001")) (tCons (tC (.str "add 9001")) (tCons (tC (.str "add -9001")) (tCons (tC (.str "read 90001")) (tCons (tC (.str "instant -100001")) tNil))))))) tNil))) (gName 12)) (tSeq (tIfS (tTest (tOp rNe (tCallLam _ _ [((lwOf (eArg (eArg (sVal (sBody s_law 6)) 0) 0)), none, fun E => (tMeth T.a_Desk "run" (sp_Desk_run_x T) [] E (tVar 4) (tCons (tVar 12) tNil)))] (TT_law_wrong T) (tLamV _ _ (lwOf (eArg (eArg (sVal (sBody s_law 6)) 0) 0)) _ none)) (tC (.str "now")))) (tRet (tC (.bl false))) tNext) (tSeq (tAsg (tLst (tCons (tC (.str "")) (tCons (tC (.str "Show")) (tCons (tC (.str "show ")) (tCons (tC (.str "read")) (tCons (tC (.str "read ")) (tCons (tC (.str "read 01")) (tCons (tC (.str "read -0")) (tCons (tC (.str "add +1")) (tCons (tC (.str "add 1 1")) (tCons (tC (.str "instant x")) (tCons (tC (.str "adds 1")) (tCons (tC (.str "when?")) (tCons (tC (.str "undo")) (tCons (tC (.str "read  1")) (tCons (tC (.str "read 1234567890")) (tCons (tC (.str "now")) tNil))))))))))))))))) (gName 13)) (tSeq (tIfS (tOr (tTest (tOp rNe (tCallLam _ _ [((lwOf (eArg (eArg (eArg (sVal (sBody s_law 8)) 0) 0) 0)), none, fun E => (tMeth T.a_Desk "run" (sp_Desk_run_x T) [] E (tVar 4) (tCons (tOp (rIxL K) (tVar 13) (tCall (sp_law_taken K) [] E0 (tCons (tVar 1) (tCons (tC (.int 16)) tNil)))) tNil)))] (TT_law_wrong T) (tLamV _ _ (lwOf (eArg (eArg (eArg (sVal (sBody s_law 8)) 0) 0) 0)) _ none)) (tC (.str "line")))) (tNot (tB (tCall (sp_law_alike K 5) [] E0 (tCons (tProp T.a_Desk (sp_Desk_time T) [] E0 (tVar 4)) (tCons (tVar 5) tNil)))))) (tRet (tC (.bl false))) tNext) (tSeq (tIfS (tTest (tOp rNe (tCallLam _ _ [((lwOf (eArg (eArg (sVal (sBody s_law 9)) 0) 0)), none, fun E => (tMeth T.a_Desk "run" (sp_Desk_run_x T) [] E (tVar 4) (tCons (tCall (sp_law_pick K) [] E0 (tCons (tVar 1) (tCons (tLst (tCons (tC .non) (tCons (tC (.int 5)) (tCons (tLst (tCons (tC (.str "show")) tNil)) (tCons (tC (.bl true)) tNil))))) tNil))) tNil)))] (TT_law_wrong T) (tLamV _ _ (lwOf (eArg (eArg (sVal (sBody s_law 9)) 0) 0)) _ none)) (tC (.str "text")))) (tRet (tC (.bl false))) tNext) (tRet (tAndV (tOp rEq (tCallLam _ _ [((lwOf (eArg (eArg (eArg (sVal (sBody s_law 10)) 0) 0) 0)), none, fun E => (tMake T.a_Desk (sp_Desk_init_x T) [] E (tCons (tC .non) (tCons (tC .non) tNil))))] (TT_law_wrong T) (tLamV _ _ (lwOf (eArg (eArg (eArg (sVal (sBody s_law 10)) 0) 0) 0)) _ none)) (tC (.str "library"))) (tOp rEq (tCallLam _ _ [((lwOf (eArg (eArg (eArg (sVal (sBody s_law 10)) 1) 0) 0)), (some 0), fun E => (tMake T.a_Desk (sp_Desk_init_x T) [] E (tCons (tVar 2) (tCons (tC .non) tNil))))] (TT_law_wrong T) (tLamV _ _ (lwOf (eArg (eArg (eArg (sVal (sBody s_law 10)) 1) 0) 0)) _ (some 0))) (tC (.str "zone"))))))))))))))),
    PSs.nox (pss_cons (ps_set (i := 1) sc_law.nd rfl (Or.inr rfl) (pe_lst (pa_cons (pv 0) (pa_cons pe_int (pa_cons pe_int (pa_cons pe_int pa_nil)))))) (pss_cons (ps_asg (pe_tup (pa_cons (pe_call (ok_law_library T) (hr.mono (by decide)) (by rfl) T.f_law_library.g T.f_law_library.F.kp T.f_law_library.b .nil pass0 (pa_cons (pv 1) pa_nil)) (pa_cons (pe_call (ok_law_zone T) (hr.mono (by decide)) (by rfl) T.f_law_zone.g T.f_law_zone.F.kp T.f_law_zone.b .nil pass0 (pa_cons (pv 1) (pa_cons (pe_call (ok_law_pick T) (hr.mono (by decide)) (by rfl) T.f_law_pick.g T.f_law_pick.F.kp T.f_law_pick.b .nil pass0 (pa_cons (pv 1) (pa_cons (pe_lst (pa_cons pe_str (pa_cons pe_str (pa_cons pe_str (pa_cons pe_str (pa_cons pe_str pa_nil)))))) pa_nil))) pa_nil))) pa_nil))) (pg_tup rfl (pgs_cons (pg_name (i := 2) sc_law.nd rfl (Or.inr rfl)) (pgs_cons (pg_name (i := 3) sc_law.nd rfl (Or.inl rfl)) pgs_nil)))) (pss_cons (ps_asg (pe_tup (pa_cons (pe_make T.mk_Desk (ok_Desk_init_x T) (hr.mono (by decide)) (by rfl) T.g_Desk T.f_Desk_init.b .nil passL (pa_cons (pv 2) (pa_cons (pv 3) pa_nil))) (pa_cons (pe_call (ok_law_at T) (hr.mono (by decide)) (by rfl) T.f_law_at.g T.f_law_at.F.kp T.f_law_at.b .nil pass0 (pa_cons (pv 2) (pa_cons (pv 3) (pa_cons (pe_op op_sub pe_int pe_int) pa_nil)))) (pa_cons (pe_lst pa_nil) pa_nil)))) (pg_tup rfl (pgs_cons (pg_name (i := 4) sc_law.nd rfl (Or.inr rfl)) (pgs_cons (pg_name (i := 5) sc_law.nd rfl (Or.inl rfl)) (pgs_cons (pg_name (i := 6) sc_law.nd rfl (Or.inl rfl)) pgs_nil))))) (pss_cons (ps_if (PW.pt (pw_or (pt_cmpR op_ne (pe_callLam (k := 8) (by rfl) T.f_law_wrong.g T.f_law_wrong.F T.f_law_wrong.b sc_law_wrong rfl (.inl rfl) rfl (gives_law_wrong (X := (cxOf CX0 P w K mg base ["script", "row", "way", "zone", "desk", "own", "past", "turn", "word", "number", "read", "shown", "far", "odd"] "law" (defScope s_law) T.f_law.f (.ref (He.cT K ("law", none)).1) A outer s H E).nox) T) hr (lall_cons ⟨lamS1_by (N := ["script", "row", "way", "zone", "desk", "own", "past", "turn", "word", "number", "read", "shown", "far", "odd"]) (sc := defScope s_law) (by decide +kernel), (fun q cl doc pm c ctv => rfl), fun A outer s H E f c' hr => (pe_meth0 (pv 4) T.cl_Desk T.me_Desk_undo (ok_Desk_undo_x T) (hr.mono (by decide)) T.f_Desk_undo.b .nil (passU (takes_of rfl rfl rfl rfl)))⟩ lall_nil) (pe_lamV (lwOf (eArg (eArg (eArg (sVal (sBody s_law 3)) 0) 0) 0)) rfl TB rfl tab_m tab_u (lamS1_by (N := ["script", "row", "way", "zone", "desk", "own", "past", "turn", "word", "number", "read", "shown", "far", "odd"]) (sc := defScope s_law) (by decide +kernel)) rfl)) pe_str (nomark _)) (pw_or1 (pt_not (pt_val (pe_call (ok_law_alike T 5) (hr.mono (by decide)) (by rfl) T.f_law_alike.g T.f_law_alike.F.kp T.f_law_alike.b .nil pass0 (pa_cons (pe_prop (pv 4) T.cl_Desk T.pr_Desk_time (ok_Desk_time T) (hr.mono (by decide)) T.f_Desk_time.b .nil pass0 rfl) (pa_cons (pv 5) pa_nil)))))))) (pss_one (ps_ret pe_bl)) pss_nil) (pss_cons (ps_for PassesOwn.never rfl (pi_range1 (by rfl) T.z_range (pa_cons (pe_op op_add pe_int (pe_call (ok_law_taken T) (hr.mono (by decide)) (by rfl) T.f_law_taken.g T.f_law_taken.F.kp T.f_law_taken.b .nil pass0 (pa_cons (pv 1) (pa_cons pe_int pa_nil)))) pa_nil)) (pg_name (i := 7) sc_law.nd rfl (Or.inl rfl)) (pss_cons (ps_asg (pe_tup (pa_cons (pe_call (ok_law_pick T) (hr.mono (by decide)) (by rfl) T.f_law_pick.g T.f_law_pick.F.kp T.f_law_pick.b .nil pass0 (pa_cons (pv 1) (pa_cons (pe_lst (pa_cons pe_str (pa_cons pe_str (pa_cons pe_str (pa_cons pe_str (pa_cons pe_str (pa_cons pe_str pa_nil))))))) pa_nil))) (pa_cons (pe_call (ok_law_spot T) (hr.mono (by decide)) (by rfl) T.f_law_spot.g T.f_law_spot.F.kp T.f_law_spot.b .nil pass0 (pa_cons (pv 1) (pa_cons (pv 3) pa_nil))) pa_nil))) (pg_tup rfl (pgs_cons (pg_name (i := 8) sc_law.nd rfl (Or.inl rfl)) (pgs_cons (pg_name (i := 9) sc_law.nd rfl (Or.inr rfl)) pgs_nil)))) (pss_cons (ps_set (i := 9) sc_law.nd rfl (Or.inr rfl) (pe_ifExp (pt_cmpR op_eq (pv 8) pe_str (nomark _)) (pe_call (ok_law_hours T) (hr.mono (by decide)) (by rfl) T.f_law_hours.g T.f_law_hours.F.kp T.f_law_hours.b .nil pass0 (pa_cons (pv 1) pa_nil)) (pv 9))) (pss_cons (ps_if (PW.pt (pw_and (pt_cmpR (op_neD hr.units) (pv 6) (pe_lst pa_nil) (nomark _)) (pw_and1 (pt_cmpR op_eq (pe_call (ok_law_taken T) (hr.mono (by decide)) (by rfl) T.f_law_taken.g T.f_law_taken.F.kp T.f_law_taken.b .nil pass0 (pa_cons (pv 1) (pa_cons pe_int pa_nil))) pe_int (nomark _))))) (pss_cons (ps_if (pt_cmpR op_notN (pe_meth0 (pv 4) T.cl_Desk T.me_Desk_undo (ok_Desk_undo_x T) (hr.mono (by decide)) T.f_Desk_undo.b .nil passL) pe_non (nomark _)) (pss_one (ps_ret pe_bl)) pss_nil) (pss_one (ps_set (i := 5) sc_law.nd rfl (Or.inl rfl) (pe_bm0 PySem.F.plainAttrs_list PySem.F.slot_list_pop PySem.F.type_list_pop mt_pop (pv 6))))) (pss_one (ps_if (PW.pt (pw_and (pt_cmpR op_eq (pv 8) pe_str (nomark _)) (pw_and1 (pt_cmpR (op_eqD hr.units) (pv 5) pe_str (nomark _))))) (pss_one (ps_if (pt_cmpR op_ne (pe_callLam (k := 8) (by rfl) T.f_law_wrong.g T.f_law_wrong.F T.f_law_wrong.b sc_law_wrong rfl (.inl rfl) rfl (gives_law_wrong (X := (cxOf CX0 P w K mg base ["script", "row", "way", "zone", "desk", "own", "past", "turn", "word", "number", "read", "shown", "far", "odd"] "law" (defScope s_law) T.f_law.f (.ref (He.cT K ("law", none)).1) A outer s H E).nox) T) hr (lall_cons ⟨lamS1_by (N := ["script", "row", "way", "zone", "desk", "own", "past", "turn", "word", "number", "read", "shown", "far", "odd"]) (sc := defScope s_law) (by decide +kernel), (fun q cl doc pm c ctv => rfl), fun A outer s H E f c' hr => (pe_meth (pv 4) T.cl_Desk T.me_Desk_run (ok_Desk_run_x T) (hr.mono (by decide)) T.f_Desk_run.b .nil (passU (takes_of rfl rfl rfl rfl)) (pa_cons (pe_op op_add_str pe_str (pe_callTy crStrInt (by rfl) T.z_str (by decide +kernel) (pa_cons (pv 9) pa_nil))) pa_nil))⟩ lall_nil) (pe_lamV (lwOf (eArg (eArg (sVal (sBody (sElse (sBody (sBody s_law 4) 2) 0) 0)) 0) 0)) rfl TB rfl tab_m tab_u (lamS1_by (N := ["script", "row", "way", "zone", "desk", "own", "past", "turn", "word", "number", "read", "shown", "far", "odd"]) (sc := defScope s_law) (by decide +kernel)) rfl)) pe_str (nomark _)) (pss_one (ps_ret pe_bl)) pss_nil)) (pss_cons (ps_if (pt_cmpR op_notN (pe_meth (pv 4) T.cl_Desk T.me_Desk_run (ok_Desk_run_x T) (hr.mono (by decide)) T.f_Desk_run.b .nil passL (pa_cons (pe_op op_add_str (pe_op op_add_str (pv 8) pe_str) (pe_callTy crStrInt (by rfl) T.z_str (by decide +kernel) (pa_cons (pv 9) pa_nil))) pa_nil)) pe_non (nomark _)) (pss_one (ps_ret pe_bl)) pss_nil) (pss_cons (ps_expr (pe_bm PySem.F.plainAttrs_list PySem.F.slot_list_append PySem.F.type_list_append mt_append (pv 6) (pa_cons (pv 5) pa_nil))) (pss_cons (ps_set (i := 10) sc_law.nd rfl (Or.inl rfl) (pe_ifExp (pt_cmpR op_eq (pv 8) pe_str (nomark _)) (pe_call (ok_law_at T) (hr.mono (by decide)) (by rfl) T.f_law_at.g T.f_law_at.F.kp T.f_law_at.b .nil pass0 (pa_cons (pv 2) (pa_cons (pv 3) (pa_cons (pv 9) pa_nil)))) (pe_call (ok_law_read T) (hr.mono (by decide)) (by rfl) T.f_law_read.g T.f_law_read.F.kp T.f_law_read.b .nil pass0 (pa_cons (pv 2) (pa_cons (pv 3) (pa_cons (pv 9) pa_nil)))))) (pss_one (ps_set (i := 5) sc_law.nd rfl (Or.inl rfl) (pe_ifExp (pt_cmpR op_eq (pv 8) pe_str (nomark _)) (pe_call (ok_law_add T) (hr.mono (by decide)) (by rfl) T.f_law_add.g T.f_law_add.F.kp T.f_law_add.b .nil pass0 (pa_cons (pv 2) (pa_cons (pv 3) (pa_cons (pv 5) (pa_cons (pv 9) pa_nil))))) (pv 10)))))))))) (pss_cons (ps_set (i := 11) sc_law.nd rfl (Or.inl rfl) (pe_ifExp (pt_cmpR (op_eqD hr.units) (pv 5) pe_str (nomark _)) (pv 5) (pe_op op_add_str (pe_callTy crStrInt (by rfl) T.z_str (by decide +kernel) (pa_cons (pe_ix ix_tup (pv 5) pe_int (fun _ _ => rfl)) pa_nil)) (pe_op opMulS pe_str (pe_ix ix_tup (pv 5) pe_int (fun _ _ => rfl)))))) (pss_cons (ps_if (PW.pt (pw_or (pt_not (pt_val (pe_call (ok_law_alike T 5) (hr.mono (by decide)) (by rfl) T.f_law_alike.g T.f_law_alike.F.kp T.f_law_alike.b .nil pass0 (pa_cons (pe_prop (pv 4) T.cl_Desk T.pr_Desk_time (ok_Desk_time T) (hr.mono (by decide)) T.f_Desk_time.b .nil pass0 rfl) (pa_cons (pv 5) pa_nil))))) (pw_or1 (pt_cmpR op_ne (pe_meth (pv 4) T.cl_Desk T.me_Desk_run (ok_Desk_run_x T) (hr.mono (by decide)) T.f_Desk_run.b .nil passL (pa_cons pe_str pa_nil)) (pv 11) (nomark _))))) (pss_one (ps_ret pe_bl)) pss_nil) (pss_one (ps_if (pt_cmpR op_ne (pe_meth (pv 4) T.cl_Desk T.me_Desk_run (ok_Desk_run_x T) (hr.mono (by decide)) T.f_Desk_run.b .nil passL (pa_cons pe_str pa_nil)) (pe_ifExp (pt_cmpR (op_eqD hr.units) (pv 5) pe_str (nomark _)) pe_str (pe_callTy crStrInt (by rfl) T.z_str (by decide +kernel) (pa_cons (pe_call (ok_law_instant T) (hr.mono (by decide)) (by rfl) T.f_law_instant.g T.f_law_instant.F.kp T.f_law_instant.b .nil pass0 (pa_cons (pv 2) (pa_cons (pv 3) (pa_cons (pv 5) pa_nil)))) pa_nil))) (nomark _)) (pss_one (ps_ret pe_bl)) pss_nil)))))))) (pss_cons (ps_set (i := 12) sc_law.nd rfl (Or.inr rfl) (pe_call (ok_law_pick T) (hr.mono (by decide)) (by rfl) T.f_law_pick.g T.f_law_pick.F.kp T.f_law_pick.b .nil pass0 (pa_cons (pv 1) (pa_cons (pe_lst (pa_cons pe_str (pa_cons pe_str (pa_cons pe_str (pa_cons pe_str (pa_cons pe_str (pa_cons pe_str pa_nil))))))) pa_nil)))) (pss_cons (ps_if (pt_cmpR op_ne (pe_callLam (k := 8) (by rfl) T.f_law_wrong.g T.f_law_wrong.F T.f_law_wrong.b sc_law_wrong rfl (.inl rfl) rfl (gives_law_wrong (X := (cxOf CX0 P w K mg base ["script", "row", "way", "zone", "desk", "own", "past", "turn", "word", "number", "read", "shown", "far", "odd"] "law" (defScope s_law) T.f_law.f (.ref (He.cT K ("law", none)).1) A outer s H E).nox) T) hr (lall_cons ⟨lamS1_by (N := ["script", "row", "way", "zone", "desk", "own", "past", "turn", "word", "number", "read", "shown", "far", "odd"]) (sc := defScope s_law) (by decide +kernel), (fun q cl doc pm c ctv => rfl), fun A outer s H E f c' hr => (pe_meth (pv 4) T.cl_Desk T.me_Desk_run (ok_Desk_run_x T) (hr.mono (by decide)) T.f_Desk_run.b .nil (passU (takes_of rfl rfl rfl rfl)) (pa_cons (pv 12) pa_nil))⟩ lall_nil) (pe_lamV (lwOf (eArg (eArg (sVal (sBody s_law 6)) 0) 0)) rfl TB rfl tab_m tab_u (lamS1_by (N := ["script", "row", "way", "zone", "desk", "own", "past", "turn", "word", "number", "read", "shown", "far", "odd"]) (sc := defScope s_law) (by decide +kernel)) rfl)) pe_str (nomark _)) (pss_one (ps_ret pe_bl)) pss_nil) (pss_cons (ps_set (i := 13) sc_law.nd rfl (Or.inr rfl) (pe_lst (pa_cons pe_str (pa_cons pe_str (pa_cons pe_str (pa_cons pe_str (pa_cons pe_str (pa_cons pe_str (pa_cons pe_str (pa_cons pe_str (pa_cons pe_str (pa_cons pe_str (pa_cons pe_str (pa_cons pe_str (pa_cons pe_str (pa_cons pe_str (pa_cons pe_str (pa_cons pe_str pa_nil)))))))))))))))))) (pss_cons (ps_if (PW.pt (pw_or (pt_cmpR op_ne (pe_callLam (k := 8) (by rfl) T.f_law_wrong.g T.f_law_wrong.F T.f_law_wrong.b sc_law_wrong rfl (.inl rfl) rfl (gives_law_wrong (X := (cxOf CX0 P w K mg base ["script", "row", "way", "zone", "desk", "own", "past", "turn", "word", "number", "read", "shown", "far", "odd"] "law" (defScope s_law) T.f_law.f (.ref (He.cT K ("law", none)).1) A outer s H E).nox) T) hr (lall_cons ⟨lamS1_by (N := ["script", "row", "way", "zone", "desk", "own", "past", "turn", "word", "number", "read", "shown", "far", "odd"]) (sc := defScope s_law) (by decide +kernel), (fun q cl doc pm c ctv => rfl), fun A outer s H E f c' hr => (pe_meth (pv 4) T.cl_Desk T.me_Desk_run (ok_Desk_run_x T) (hr.mono (by decide)) T.f_Desk_run.b .nil (passU (takes_of rfl rfl rfl rfl)) (pa_cons (pe_ix ix_list (pv 13) (pe_call (ok_law_taken T) (hr.mono (by decide)) (by rfl) T.f_law_taken.g T.f_law_taken.F.kp T.f_law_taken.b .nil pass0 (pa_cons (pv 1) (pa_cons pe_int pa_nil))) (fun _ _ => rfl)) pa_nil))⟩ lall_nil) (pe_lamV (lwOf (eArg (eArg (eArg (sVal (sBody s_law 8)) 0) 0) 0)) rfl TB rfl tab_m tab_u (lamS1_by (N := ["script", "row", "way", "zone", "desk", "own", "past", "turn", "word", "number", "read", "shown", "far", "odd"]) (sc := defScope s_law) (by decide +kernel)) rfl)) pe_str (nomark _)) (pw_or1 (pt_not (pt_val (pe_call (ok_law_alike T 5) (hr.mono (by decide)) (by rfl) T.f_law_alike.g T.f_law_alike.F.kp T.f_law_alike.b .nil pass0 (pa_cons (pe_prop (pv 4) T.cl_Desk T.pr_Desk_time (ok_Desk_time T) (hr.mono (by decide)) T.f_Desk_time.b .nil pass0 rfl) (pa_cons (pv 5) pa_nil)))))))) (pss_one (ps_ret pe_bl)) pss_nil) (pss_cons (ps_if (pt_cmpR op_ne (pe_callLam (k := 8) (by rfl) T.f_law_wrong.g T.f_law_wrong.F T.f_law_wrong.b sc_law_wrong rfl (.inl rfl) rfl (gives_law_wrong (X := (cxOf CX0 P w K mg base ["script", "row", "way", "zone", "desk", "own", "past", "turn", "word", "number", "read", "shown", "far", "odd"] "law" (defScope s_law) T.f_law.f (.ref (He.cT K ("law", none)).1) A outer s H E).nox) T) hr (lall_cons ⟨lamS1_by (N := ["script", "row", "way", "zone", "desk", "own", "past", "turn", "word", "number", "read", "shown", "far", "odd"]) (sc := defScope s_law) (by decide +kernel), (fun q cl doc pm c ctv => rfl), fun A outer s H E f c' hr => (pe_meth (pv 4) T.cl_Desk T.me_Desk_run (ok_Desk_run_x T) (hr.mono (by decide)) T.f_Desk_run.b .nil (passU (takes_of rfl rfl rfl rfl)) (pa_cons (pe_call (ok_law_pick T) (hr.mono (by decide)) (by rfl) T.f_law_pick.g T.f_law_pick.F.kp T.f_law_pick.b .nil pass0 (pa_cons (pv 1) (pa_cons (pe_lst (pa_cons pe_non (pa_cons pe_int (pa_cons (pe_lst (pa_cons pe_str pa_nil)) (pa_cons pe_bl pa_nil))))) pa_nil))) pa_nil))⟩ lall_nil) (pe_lamV (lwOf (eArg (eArg (sVal (sBody s_law 9)) 0) 0)) rfl TB rfl tab_m tab_u (lamS1_by (N := ["script", "row", "way", "zone", "desk", "own", "past", "turn", "word", "number", "read", "shown", "far", "odd"]) (sc := defScope s_law) (by decide +kernel)) rfl)) pe_str (nomark _)) (pss_one (ps_ret pe_bl)) pss_nil) (pss_one (ps_ret (pe_and (pe_cmpR op_eq (pe_callLam (k := 8) (by rfl) T.f_law_wrong.g T.f_law_wrong.F T.f_law_wrong.b sc_law_wrong rfl (.inl rfl) rfl (gives_law_wrong (X := (cxOf CX0 P w K mg base ["script", "row", "way", "zone", "desk", "own", "past", "turn", "word", "number", "read", "shown", "far", "odd"] "law" (defScope s_law) T.f_law.f (.ref (He.cT K ("law", none)).1) A outer s H E).nox) T) hr (lall_cons ⟨lamS1_by (N := ["script", "row", "way", "zone", "desk", "own", "past", "turn", "word", "number", "read", "shown", "far", "odd"]) (sc := defScope s_law) (by decide +kernel), (fun q cl doc pm c ctv => rfl), fun A outer s H E f c' hr => (pe_make T.mk_Desk (ok_Desk_init_x T) (hr.mono (by decide)) (by rfl) T.g_Desk T.f_Desk_init.b .nil (passU (takes_of rfl rfl rfl rfl)) (pa_cons pe_non (pa_cons pe_non pa_nil)))⟩ lall_nil) (pe_lamV (lwOf (eArg (eArg (eArg (sVal (sBody s_law 10)) 0) 0) 0)) rfl TB rfl tab_m tab_u (lamS1_by (N := ["script", "row", "way", "zone", "desk", "own", "past", "turn", "word", "number", "read", "shown", "far", "odd"]) (sc := defScope s_law) (by decide +kernel)) rfl)) pe_str (nomark _)) (pe_one (pe_cmpR op_eq (pe_callLam (k := 8) (by rfl) T.f_law_wrong.g T.f_law_wrong.F T.f_law_wrong.b sc_law_wrong rfl (.inl rfl) rfl (gives_law_wrong (X := (cxOf CX0 P w K mg base ["script", "row", "way", "zone", "desk", "own", "past", "turn", "word", "number", "read", "shown", "far", "odd"] "law" (defScope s_law) T.f_law.f (.ref (He.cT K ("law", none)).1) A outer s H E).nox) T) hr (lall_cons ⟨lamS1_by (N := ["script", "row", "way", "zone", "desk", "own", "past", "turn", "word", "number", "read", "shown", "far", "odd"]) (sc := defScope s_law) (by decide +kernel), ⟨"a", by decide +kernel, fun q cl dt doc pm c ctv u => ⟨_, rfl, rfl⟩⟩, fun A outer s H E f c' hr => (pe_make T.mk_Desk (ok_Desk_init_x T) (hr.mono (by decide)) (by rfl) T.g_Desk T.f_Desk_init.b .nil (passU (takes_of rfl rfl rfl rfl)) (pa_cons (pv 2) (pa_cons pe_non pa_nil)))⟩ lall_nil) (pe_lamV1 (lwOf (eArg (eArg (eArg (sVal (sBody s_law 10)) 1) 0) 0)) rfl TB rfl tab_m tab_u (lamS1_by (N := ["script", "row", "way", "zone", "desk", "own", "past", "turn", "word", "number", "read", "shown", "far", "odd"]) (sc := defScope s_law) (by decide +kernel)) rfl)) pe_str (nomark _)))))))))))))))), ?_⟩
  refine g_cut4 (P := fun σ' H' => ∃ (r x l pl : Addr) (wv zv : V) (y : Way) (z : Zone) (ov : V) (cur : Option Tm) (x7 x8 x9 x10 x11 x12 x13 : Option V), σ' = [some (.ref a), some (.ref r), some wv, some zv, some (.ref x), some ov, some (.ref pl), x7, x8, x9, x10, x11, x12, x13] ∧ InvD T r a ns x l pl wv zv y z 0 H' ov cur) (fun rest' hrest => ?_) ?_
  · walk_at "gg"
    refine g_newL (by simp) fun r H1 n1 e1 h1 => ?_
    walk_at "gg"
    have R1 : Row K H1 (r, a, ns) := Row.new hs n1 e1 h1 (by omega) (by omega)
    have T1 := tabs_one (q := "law" ++ ".<locals>." ++ "<lambda>") (e1 _ _ hP)
    refine ⟨(r, a, ns), rfl, R1, fun wv y H2 f2 R2 hw2 => ?_⟩
    walk_at "gg"
    refine g_newL (by simp) fun l3 H3 n3 e3 h3 => ?_
    walk_at "gg"
    obtain ⟨xs2, q2⟩ := R2.lst
    refine ⟨(r, a, ns), _, _, rfl, R2.ex e3, h3, (ne_of_none q2 n3).symm, by simp, by simp, fun kx H4 m4 f4 R4 => ?_⟩
    obtain ⟨kind, rfl, hk⟩ : ∃ kind : Str, kx = .str kind ∧ (kind = "fixed" ∨ kind = "skips" ∨ kind = "repeats" ∨ kind = "both") := by
      simp only [List.mem_cons, List.not_mem_nil, or_false] at m4
      rcases m4 with rfl | rfl | rfl | rfl | rfl
      · exact ⟨_, rfl, .inl rfl⟩
      · exact ⟨_, rfl, .inr (.inl rfl)⟩
      · exact ⟨_, rfl, .inr (.inr (.inl rfl))⟩
      · exact ⟨_, rfl, .inr (.inr (.inr rfl))⟩
      · exact ⟨_, rfl, .inr (.inr (.inr rfl))⟩
    walk_at "gg"
    refine ⟨(r, a, ns), _, rfl, R4, hk, fun zv z H5 f5 R5 hz5 hg => ?_⟩
    have hZ := OkZ.of hg.ok
    have f25 := (Fr.of e3).trans (f4.trans f5)
    have hw5 := hw2.tr (R2.tr f25)
    obtain ⟨xs1, q1⟩ := R1.lst
    have T5 := tabs_keep T1 q1 (f2.trans f25)
    walk_at "gg"
    refine g_newT (by simp) fun p6 H6 n6 e6 h6 => ?_
    walk_at "gg"
    obtain ⟨xs5, q5⟩ := R5.lst
    have R6 := R5.ex e6
    have T6 := tabs_keep T5 q5 (Fr.of e6)
    have hw6 := hw5.tr (TrT.of e6)
    have hz6 := hz5.tr (TrT.of e6)
    have q6 := e6 _ _ q5
    intro x dx nx nd ndx
    have e7 : Ex H6 (L2.upd (L2.upd H6 dx (.own x)) x (.ins T.a_Desk dx [])) := (Evl.Ex.new nd).trans (Evl.Ex.new (by rw [upd_ne (Ne.symm ndx)]; exact nx))
    generalize hH7 : L2.upd (L2.upd H6 dx (.own x)) x (.ins T.a_Desk dx []) = H7 at e7
    have h7 : H7 x = some (.ins T.a_Desk dx []) := by rw [← hH7]; exact upd_same
    refine ⟨x, dx, wv, zv, some y, some z, rfl, h7, hw6.tr (TrT.of e7), .inr ⟨hz6.tr (TrT.of e7), hg.ok⟩, (fun h => nomatch h), (fun _ h => nomatch h), ?_⟩
    intro y' z' ey ez l tv H8 nlx nl f8 D8
    cases ey
    cases ez
    refine ⟨rfl, ?_⟩
    have e8 : Ex H6 H8 := fun b o hb => f8 _ _ (ne_of_none hb nx) (e7 _ _ hb)
    have R8 := R6.ex e8
    have T8 := tabs_keep T6 q6 (Fr.of e8)
    have nl6 := Evl.fresh_back e7 nl
    walk_at "gg"
    refine ⟨wv, zv, y, z, _, rfl, D8.way, D8.zone, hZ, ⟨by decide, by decide⟩, fun ov H9 e9 hv9 => ?_⟩
    have hv9 : TV K H9 ov (at_ y z (-500)) := hv9
    walk_at "gg"
    refine g_newL (by simp) fun pl H10 n10 e10 h10 => ?_
    walk_at "gg"
    refine g_newT (by simp) fun p11 H11 n11 e11 h11 => ?_
    have e811 := (e9.trans e10).trans e11
    have D11 := D8.ex e811
    have R11 := R8.ex e811
    obtain ⟨xs8, q8⟩ := R8.lst
    obtain ⟨xs6, q6'⟩ := R6.lst
    have npl8 := Evl.fresh_back (e9) n10
    have T11 := tabs_keep T8 q8 (Fr.of e811)
    have K11 : Dk T r a ns x l pl wv zv y z H11 [tv] ([] ++ [at_ y z (-500)]) [] [] ov (at_ y z (-500)) :=
      ⟨R11, T11, D11, e11 _ _ h10, .nil, hv9.tr (TrT.of (e10.trans e11)), (ne_of_none q6 nl6).symm, (ne_of_none q8 npl8).symm, (ne_of_none D8.lst npl8).symm, Away.of R6.sq nl6, Away.of R8.sq npl8⟩
    have I11 : InvD T r a ns x l pl wv zv y z 0 H11 ov (at_ y z (-500)) := by
      refine ⟨hZ, _, _, _, K11, Nat.le_refl _, fun o ho => ?_⟩
      obtain rfl := List.mem_singleton.mp ho
      exact ⟨at_good hZ, (at_near (B := 600) hZ (by decide) (by decide)).mono (by decide)⟩
    walk_at "gg"
    refine ⟨I11.tabs, fun f12 H12 eN12 T12 nf12 la12 => ?_⟩
    have I12 := I11.extN eN12 T12
    refine ⟨0, f12, _, _, _, rfl, rfl, la12, la12, fun E12 Qn12 hE => ?_⟩
    walk_at "gg"
    have K12 := K11.extN eN12 T12
    obtain ⟨dx12, hx12⟩ := K12.desk.ob
    refine ⟨x, dx12, _, rfl, hx12, no_undo wv zv l, ?_⟩
    walk_at "gg"
    refine ⟨x, dx12, wv, zv, l, [tv], rfl, hx12, K12.desk.lst, by simp, by simp, fun _ => hE 5 T.e_NothingToUndo "undo" ⟨rfl, T.x_NothingToUndo, T.m_NothingToUndo⟩ rfl _ (fun H13 e13 => ?_), fun h => absurd h (by simp)⟩
    have I13 := I12.ex e13
    walk_at "gg"
    obtain ⟨dx, ts, hist, v, hx, hl, D, hv, few, one, tv', sm, si⟩ := I13.ask (by decide)
    refine ⟨x, dx, _, rfl, hx, x, dx, wv, zv, l, ts, v, rfl, hx, hl, hv, ?_⟩
    walk_at "gg"
    refine ⟨v, ov, encT (at_ y z (-500)), rfl, tv'.dp, I13.own.dp, fits_enc _, fun H14 e14 => ?_⟩
    walk_at "gg"
    exact hrest _ _ ⟨r, x, l, pl, wv, zv, y, z, ov, _, _, _, _, _, _, _, _, rfl, I13.ex e14⟩
  rintro σ H2 ⟨r, x, l, pl, wv, zv, y, z, ov, cur, x7, x8, x9, x10, x11, x12, x13, rfl, I2⟩
  refine g_cut1 (P := fun σ' H' => ∃ (ov : V) (cur : Option Tm) (x7 x8 x9 x10 x11 x12 x13 : Option V), σ' = [some (.ref a), some (.ref r), some wv, some zv, some (.ref x), some ov, some (.ref pl), x7, x8, x9, x10, x11, x12, x13] ∧ InvD T r a ns x l pl wv zv y z 20 H' ov cur) (fun rest' hrest => ?_) ?_
  · walk_at "gg"
    refine ⟨(r, a, ns), _, rfl, I2.row, by omega, by omega, fun n3 H3 a3 b3 f3 R3 => ?_⟩
    have I3 := I2.fr f3 R3
    walk_at "gg"
    refine g_forR (by omega) (by omega) (fun i σ' H' => ∃ (ov : V) (cur : Option Tm) (x7 x8 x9 x10 x11 x12 x13 : Option V), σ' = [some (.ref a), some (.ref r), some wv, some zv, some (.ref x), some ov, some (.ref pl), x7, x8, x9, x10, x11, x12, x13] ∧ InvD T r a ns x l pl wv zv y z i H' ov cur) ?_ ?_ ?_
    · exact ⟨_, _, _, _, _, _, _, _, _, rfl, I3⟩
    · rintro i σ' H4 hi ⟨ov, cur, x7, x8, x9, x10, x11, x12, x13, rfl, I4⟩
      have hi : i ≤ 20 := by omega
      have hZ := I4.1
      refine g_name ?_
      refine g_cut2 (P := fun σ' H' => ∃ (x7 x10 x11 x12 x13 : Option V) (word : Str) (n : Int), σ' = [some (.ref a), some (.ref r), some wv, some zv, some (.ref x), some ov, some (.ref pl), x7, some (.str word), some (.int n), x10, x11, x12, x13] ∧ InvD T r a ns x l pl wv zv y z i H' ov cur ∧ isLine word ∧ -2000 ≤ n ∧ n ≤ 2000 ∧ (word = "add" → -400 ≤ n ∧ n ≤ 400)) (fun rest2 hrest2 => ?_) ?_
      · walk_at "gg"
        refine g_newL (by simp) fun l5 H5 n5 e5 h5 => ?_
        have I5 := I4.ex e5
        obtain ⟨xs4, q4⟩ := I4.row.lst
        walk_at "gg"
        refine ⟨(r, a, ns), _, _, rfl, I5.row, h5, (ne_of_none q4 n5).symm, by simp, by simp, fun kx H6 m6 f6 R6 => ?_⟩
        obtain ⟨word, rfl, hw⟩ : ∃ word : Str, kx = .str word ∧ isLine word := by
          simp only [List.mem_cons, List.not_mem_nil, or_false] at m6
          rcases m6 with rfl | rfl | rfl | rfl | rfl | rfl
          · exact ⟨_, rfl, .inl rfl⟩
          · exact ⟨_, rfl, .inr (.inl rfl)⟩
          · exact ⟨_, rfl, .inr (.inl rfl)⟩
          · exact ⟨_, rfl, .inr (.inr rfl)⟩
          · exact ⟨_, rfl, .inr (.inr rfl)⟩
          · exact ⟨_, rfl, .inr (.inr rfl)⟩
        have I6 := I5.fr f6 R6
        walk_at "gg"
        refine ⟨(r, a, ns), zv, z, rfl, R6, I6.zone, hZ, fun n H7 c1 c2 f7 R7 => ?_⟩
        have I7 := I6.fr f7 R7
        walk_at "gg"
        refine g_newT (by simp) fun p8 H8 n8 e8 h8 => ?_
        have I8 := I7.ex e8
        walk_at "gg"
        refine if_d (fun cw => ?_) (fun cw => ?_)
        · walk_at "gg"
          refine ⟨(r, a, ns), rfl, I8.row, fun d H9 d1 d2 f9 R9 => ?_⟩
          walk_at "gg"
          exact hrest2 _ _ ⟨_, _, _, _, _, word, d, rfl, I8.fr f9 R9, hw, by omega, by omega, fun _ => ⟨d1, d2⟩⟩
        · walk_at "gg"
          exact hrest2 _ _ ⟨_, _, _, _, _, word, n, rfl, I8, hw, c1, c2, fun h => absurd h cw⟩
      rintro σ H5 ⟨x7, x10, x11, x12, x13, word, n, rfl, I5, hw, c1, c2, c3⟩
      have hn : n.natAbs < 10 ^ 9 := by omega
      have lw := hw.len
      have ln := str_len hn
      have sz : 100000 ≤ sizeLine := by decide
      refine g_cut1 (P := fun σ' H' => ∃ (ov : V) (cur : Option Tm) (x7 x8 x9 x10 x11 x12 x13 : Option V), σ' = [some (.ref a), some (.ref r), some wv, some zv, some (.ref x), some ov, some (.ref pl), x7, x8, x9, x10, x11, x12, x13] ∧ InvD T r a ns x l pl wv zv y z (i + 1) H' ov cur) (fun rest2 hrest2 => ?_) ?_
      · walk_at "gg"
        refine g_newL (by simp) fun l6 H6 n6 e6 h6 => ?_
        have I6 := I5.ex e6
        obtain ⟨_, ts, ps, ph, D6, lp, hg⟩ := id I6
        refine g_neNilD D6.pst (dp_times D6.pd) sh_times h6 ?_
        refine ⟨_, rfl, ?_⟩
        refine g_and2 (G := fun H' => InvD T r a ns x l pl wv zv y z i H' ov cur) (fun _ => I6) (fun c BC hBC => ?_) ?_
        · walk_at "gg"
          refine ⟨(r, a, ns), _, rfl, I6.row, by omega, by omega, fun v7 H7 a7 b7 f7 R7 => ?_⟩
          have I7 := I6.fr f7 R7
          walk_at "gg"
          refine if_d (fun c7 => ?_) (fun c7 => hBC _ I7)
          obtain ⟨ph', c', rfl⟩ : ∃ ph' c', ph = ph' ++ [c'] := by
            rcases List.eq_nil_or_concat ph with rfl | ⟨ph', c', e⟩
            · cases c
            · exact ⟨ph', c', by rw [e]; simp⟩
          have D7 := D6.fr f7 R7
          obtain ⟨dx, hx⟩ := D7.desk.ob
          walk_at "gg"
          refine ⟨x, dx, _, rfl, hx, no_undo wv zv l, ?_⟩
          walk_at "gg"
          obtain ⟨ts', v, rfl, pts, _⟩ := pd_snoc D7.desk.pd
          obtain ⟨ps', y', rfl, pps, hy⟩ := pd_snoc D7.pd
          have lt := Paired.length pts
          simp only [List.length_append, List.length_cons, List.length_nil] at lt lp
          refine ⟨x, dx, wv, zv, l, _, rfl, hx, D7.desk.lst, by simp, by rw [List.length_append, List.length_singleton]; omega, fun h => ?_, fun _ H8 f8 q8 => ?_⟩
          · rw [List.length_append, List.length_singleton] at h
            omega
          rw [List.dropLast_concat] at q8
          have D8 := D7.now f8 q8 (L2.Paired.mapP pts fun _ _ q => q.tr (TrT.fr D7.desk.lst f8))
          walk_at "gg"
          refine g_var (v := .ref pl) rfl ?_
          refine ⟨.inl ⟨rfl, _, SqL.of D8.pst⟩, pl, _, y', rfl, rfl, D8.pst, by simp, ?_⟩
          rw [List.dropLast_concat]
          have t9 : TrT K H7 (L2.upd H8 pl (.lst ps')) := (TrT.fr D7.desk.lst f8).trans (TrT.upd D8.pst)
          have D9 := D8.past (ps' := ps') Fr.upd upd_same (L2.Paired.mapP pps fun _ _ q => q.tr t9)
          walk_at "gg"
          exact hrest2 _ _ ⟨y', c', _, _, _, _, _, _, _, rfl, hZ, _, _, ph', D9.set (hy.tr t9), by omega, fun o ho => ⟨(hg o (List.mem_append_left _ ho)).1, (hg o (List.mem_append_left _ ho)).2.mono (by omega)⟩⟩
        · intro H7 I7
          walk_at "gg"
          refine g_and2 (G := fun H' => InvD T r a ns x l pl wv zv y z i H' ov cur ∧ (word = "add" → cur ≠ none)) (fun c => ⟨I7, fun h => absurd h (of_decide_eq_false c)⟩) (fun c BC hBC => ?_) ?_
          · obtain rfl : word = "add" := of_decide_eq_true c
            walk_at "gg"
            refine g_eqT (b := none) I7.own rfl ?_
            rcases cur with _ | t
            · walk_at "gg"
              refine ⟨I7.tabs, fun f8 H8 eN8 T8 nf8 la8 => ?_⟩
              have I8 := I7.extN eN8 T8
              refine ⟨0, f8, _, _, _, rfl, rfl, la8, la8, fun E8 Qn8 hE => ?_⟩
              walk_at "gg"
              obtain ⟨dx, _, _, _, hx, _⟩ := I8.ask (by omega)
              refine ⟨x, dx, _, rfl, hx, no_run wv zv l, ?_⟩
              walk_at "gg"
              refine ⟨n, rfl, log_small hn, ?_⟩
              walk_at "gg"
              refine ⟨_, _, rfl, rfl, by have : ("add " : Str).length = 4 := by decide +kernel
                                         omega, ?_⟩
              rw [add_txt]
              refine run_line I8 (by omega) hw hn (fun _ H9 e9 => hE 4 T.e_NotNow "now" ⟨rfl, T.x_NotNow, T.m_NotNow⟩ rfl _ (fun H10 e10 => ?_)) (fun o ho => absurd (step_none.symm.trans ho) (fun h => nomatch h))
              walk_at "gg"
              exact hrest2 _ _ ⟨ov, none, _, _, _, _, _, _, _, rfl, (I8.ex (e9.trans e10)).up (by omega)⟩
            · walk_at "gg"
              exact hBC _ ⟨I7, fun _ h => nomatch h⟩
          · rintro H8 ⟨I8, hcw⟩
            walk_at "gg"
            obtain ⟨dx, _, _, _, hx, _⟩ := I8.ask (by omega)
            refine ⟨x, dx, _, rfl, hx, no_run wv zv l, ?_⟩
            walk_at "gg"
            have l1 : (" " : Str).length = 1 := by decide +kernel
            refine ⟨_, _, rfl, rfl, by omega, ?_⟩
            walk_at "gg"
            refine ⟨n, rfl, log_small hn, ?_⟩
            walk_at "gg"
            refine ⟨_, _, rfl, rfl, by rw [len_app]; omega, ?_⟩
            have hs := step_due (y := y) (z := z) hw c1 c2 hcw
            walk_at "gg"
            refine run_line I8 (by omega) hw hn (fun h => absurd (hs.symm.trans h) (fun h => nomatch h)) (fun o ho H9 M9 => ?_)
            obtain rfl := Option.some.inj (hs.symm.trans ho)
            obtain ⟨_, ts9, ps9, ph9, D9, lp9, hg9⟩ := M9
            walk_at "gg"
            refine g_var (v := .ref pl) rfl ?_
            refine ⟨.inl ⟨rfl, _, SqL.of D9.pst⟩, ?_⟩
            walk_at "gg"
            have l9 := Paired.length D9.pd
            refine g_app D9.pst (by omega) fun H10 eH => ?_
            subst eH
            have t10 : TrT K H9 (L2.upd H9 pl (.lst (ps9 ++ [ov]))) := TrT.upd D9.pst
            have D10 := D9.past (ps' := ps9 ++ [ov]) (ph' := ph9 ++ [cur]) Fr.upd upd_same (pd_app (L2.Paired.mapP D9.pd fun _ _ q => q.tr t10) (.cons (D9.own.tr t10) .nil))
            generalize L2.upd H9 pl (.lst (ps9 ++ [ov])) = H10 at D10
            have near := I8.near.mono (C := 100000) (by omega)
            have good := I8.good
            refine g_cut1 (P := fun σ' H' => ∃ rv : V, σ' = [some (.ref a), some (.ref r), some wv, some zv, some (.ref x), some ov, some (.ref pl), x7, some (.str word), some (.int n), some rv, x11, x12, x13] ∧
              Dk T r a ns x l pl wv zv y z H' ts9 (ph9 ++ [cur] ++ [dueO y z word n cur]) (ps9 ++ [ov]) (ph9 ++ [cur]) ov cur ∧ TV K H' rv (if word = "instant" then at_ y z n else read_ y z n)) (fun rest3 hrest3 => ?_) ?_
            · walk_at "gg"
              refine if_d (fun cw => ?_) (fun cw => ?_)
              · walk_at "gg"
                refine ⟨wv, zv, y, z, n, rfl, D10.desk.way, D10.desk.zone, hZ, ⟨by omega, by omega⟩, fun rv H11 e11 h11 => ?_⟩
                walk_at "gg"
                exact hrest3 _ _ ⟨rv, rfl, D10.ex e11, by rw [if_pos cw]; exact h11⟩
              · walk_at "gg"
                refine ⟨wv, zv, y, z, n, rfl, D10.desk.way, D10.desk.zone, hZ, ⟨by omega, by omega⟩, fun rv H11 e11 h11 => ?_⟩
                walk_at "gg"
                exact hrest3 _ _ ⟨rv, rfl, D10.ex e11, by rw [if_neg cw]; exact h11⟩
            rintro σ H11 ⟨rv, rfl, D11, h11⟩
            have fin : ∀ nv H12, Dk T r a ns x l pl wv zv y z H12 ts9 (ph9 ++ [cur] ++ [dueO y z word n cur]) (ps9 ++ [ov]) (ph9 ++ [cur]) nv (dueO y z word n cur) → InvD T r a ns x l pl wv zv y z (i + 1) H12 nv (dueO y z word n cur) := fun nv H12 D12 => by
              refine ⟨hZ, _, _, _, D12, by rw [List.length_append, List.length_singleton]; omega, fun o ho => ?_⟩
              rcases List.mem_append.mp ho with ho | ho
              · exact ⟨(hg9 o ho).1, (hg9 o ho).2.mono (by omega)⟩
              · obtain rfl := List.mem_singleton.mp ho
                exact due_good hZ good I8.near c1 c2 c3
            walk_at "gg"
            refine if_d (fun cw => ?_) (fun cw => ?_)
            · walk_at "gg"
              refine ⟨wv, zv, ov, y, z, cur, n, rfl, D11.desk.way, D11.desk.zone, hZ, D11.own, fun t e => ⟨good t e, by have := near t e; exact ⟨by omega, by omega⟩⟩, fun t e => by have := near t e; exact ⟨⟨by omega, by omega⟩, ⟨by omega, by omega⟩⟩, fun nv H12 e12 h12 => ?_⟩
              walk_at "gg"
              have h12 : TV K H12 nv (dueO y z word n cur) := by unfold dueO; rw [if_pos cw]; exact h12
              exact hrest2 _ _ ⟨nv, _, _, _, _, _, _, _, _, rfl, fin _ _ ((D11.ex e12).set h12)⟩
            · walk_at "gg"
              have h12 : TV K H11 rv (dueO y z word n cur) := by unfold dueO; rw [if_neg cw]; exact h11
              exact hrest2 _ _ ⟨rv, _, _, _, _, _, _, _, _, rfl, fin _ _ (D11.set h12)⟩
      clear I5
      rintro σ H5 ⟨ov, cur, x7, x8, x9, x10, x11, x12, x13, rfl, I5⟩
      have hj : i + 1 ≤ 50 := by omega
      have near := I5.near.mono (C := 100000) (by omega)
      have good := I5.good
      refine g_cut1 (P := fun σ' H' => ∃ (x7 x8 x9 x10 x12 x13 : Option V), σ' = [some (.ref a), some (.ref r), some wv, some zv, some (.ref x), some ov, some (.ref pl), x7, x8, x9, x10, some (.str (toldR cur)), x12, x13] ∧ InvD T r a ns x l pl wv zv y z (i + 1) H' ov cur) (fun rest2 hrest2 => ?_) ?_
      · walk_at "gg"
        refine g_eqT (b := none) I5.own rfl ?_
        cases cur with
        | none =>
          cases (show ov = V.str "refused" from I5.own)
          walk_at "gg"
          exact hrest2 _ _ ⟨_, _, _, _, _, _, rfl, I5⟩
        | some t =>
          obtain ⟨p, rfl, hp⟩ := (show PV K H5 ov t from I5.own)
          have bt := near t rfl
          have st : t.1.natAbs < 10 ^ 9 := by omega
          have lt := str_len st
          walk_at "gg"
          refine ⟨t.1, rfl, log_small st, ?_⟩
          walk_at "gg"
          refine ⟨_, _, rfl, rfl, (good t rfl).turn, ?_⟩
          refine ⟨_, _, rfl, rfl, ?_, ?_⟩
          · have l1 : ("'" : Str).length = 1 := by decide +kernel
            have l0 : Str.empty.length = 0 := rfl
            split <;> omega
          walk_at "gg"
          exact hrest2 _ _ ⟨_, _, _, _, _, _, rfl, I5⟩
      rintro σ H6 ⟨x7, x8, x9, x10, x12, x13, rfl, I6⟩
      obtain ⟨dx, ts, hist, v, hx, hl, D, hv, few, one, tv', sm, si⟩ := I6.ask hj
      walk_at "gg"
      refine ⟨x, dx, _, rfl, hx, x, dx, wv, zv, l, ts, v, rfl, hx, hl, hv, ?_⟩
      walk_at "gg"
      refine ⟨v, ov, encT cur, rfl, tv'.dp, I6.own.dp, fits_enc _, fun H7 e7 => ?_⟩
      have I7 := I6.ex e7
      walk_at "gg"
      obtain ⟨dx7, _, _, _, hx7, _⟩ := I7.ask hj
      refine ⟨x, dx7, _, rfl, hx7, no_run wv zv l, ?_⟩
      walk_at "gg"
      refine run_show I7 hj fun H8 e8 => ?_
      have I8 := I7.ex e8
      walk_at "gg"
      refine if_nd (fun c => absurd rfl c) (fun _ => ?_)
      walk_at "gg"
      obtain ⟨dx8, _, _, _, hx8, _⟩ := I8.ask hj
      refine ⟨x, dx8, _, rfl, hx8, no_run wv zv l, ?_⟩
      walk_at "gg"
      refine run_when I8 hj fun H9 e9 => ?_
      have I9 := I8.ex e9
      walk_at "gg"
      refine g_eqT (b := none) I9.own rfl ?_
      cases cur with
      | none =>
        walk_at "gg"
        exact ⟨_, _, _, _, _, _, _, _, _, rfl, I9⟩
      | some t =>
        have bt := near t rfl
        walk_at "gg"
        refine ⟨wv, zv, ov, y, z, t, rfl, I9.way, I9.zone, hZ, I9.own, good t rfl, ⟨by omega, by omega⟩, fun H10 e10 => ?_⟩
        walk_at "gg"
        refine ⟨_, rfl, log_small (near_inst hZ near good t rfl), ?_⟩
        walk_at "gg"
        refine if_nd (fun c => absurd rfl c) (fun _ => ?_)
        walk_at "gg"
        exact ⟨_, _, _, _, _, _, _, _, _, rfl, I9.ex e10⟩
    · rintro σ' H4 ⟨ov, cur, x7, x8, x9, x10, x11, x12, x13, rfl, I4⟩
      exact hrest _ _ ⟨_, _, _, _, _, _, _, _, _, rfl, I4.up (by omega)⟩
  clear I2
  rintro σ H2 ⟨ov, cur, x7, x8, x9, x10, x11, x12, x13, rfl, I2⟩
  walk_at "gg"
  refine g_newL (by simp) fun l3 H3 n3 e3 h3 => ?_
  walk_at "gg"
  have I3 := I2.ex e3
  obtain ⟨xs2, q2⟩ := I2.row.lst
  refine ⟨(r, a, ns), _, _, rfl, I3.row, h3, (ne_of_none q2 n3).symm, by simp, by simp, fun fx H4 m4 f4 R4 => ?_⟩
  obtain ⟨far, hfar, rfl⟩ := List.mem_map.mp (show fx ∈ farL.map V.str from m4)
  have I4 := I3.fr f4 R4
  walk_at "gg"
  refine ⟨I4.tabs, fun f5 H5 eN5 T5 nf5 la5 => ?_⟩
  have I5 := I4.extN eN5 T5
  refine ⟨0, f5, _, _, _, rfl, rfl, la5, la5, fun E5 Qn5 hE5 => ?_⟩
  walk_at "gg"
  obtain ⟨dx5, _, _, _, hx5, _⟩ := I5.ask (by decide)
  refine ⟨x, dx5, _, rfl, hx5, no_run wv zv l, ?_⟩
  walk_at "gg"
  refine run_far I5 (by decide) hfar fun H6 e6 => hE5 4 T.e_NotNow "now" ⟨rfl, T.x_NotNow, T.m_NotNow⟩ rfl _ (fun H7 e7 => ?_)
  have I7 := I5.ex (e6.trans e7)
  walk_at "gg"
  refine g_newL (by simp) fun lo H8 n8 e8 h8 => ?_
  have I8 := I7.ex e8
  walk_at "gg"
  refine ⟨I8.tabs, fun f9 H9 eN9 T9 nf9 la9 => ?_⟩
  have I9 := I8.extN eN9 T9
  have h9 := eN9 _ _ h8 (fun ps z => nomatch z)
  refine ⟨0, f9, _, _, _, rfl, rfl, la9, la9, fun E9 Qn9 hE9 => ?_⟩
  walk_at "gg"
  obtain ⟨dx9, _, _, _, hx9, _⟩ := I9.ask (by decide)
  refine ⟨x, dx9, _, rfl, hx9, no_run wv zv l, ?_⟩
  walk_at "gg"
  refine ⟨(r, a, ns), _, rfl, I9.row, by omega, by omega, fun v10 H10 p10 b10 f10 R10 => ?_⟩
  have I10 := I9.fr f10 R10
  obtain ⟨xs7, q7⟩ := I7.row.lst
  have h10 := f10 _ _ (ne_of_none q7 n8).symm h9
  obtain ⟨s10, hs10, hx10⟩ : ∃ t, t ∈ oddL ∧ (oddL.map V.str)[v10.toNat]? = some (.str t) := by
    have lt : v10.toNat < oddL.length := by
      show v10.toNat < 16
      omega
    exact ⟨oddL[v10.toNat], List.getElem_mem lt, by rw [List.getElem?_map, List.getElem?_eq_getElem lt]; rfl⟩
  refine g_ixL (SqL.of h10) (atI_of p10 hx10) ?_
  walk_at "gg"
  refine run_odd I10 (by decide) hs10 fun H11 e11 => hE9 3 T.e_InvalidText "line" ⟨rfl, T.x_InvalidText, T.m_InvalidText⟩ rfl _ (fun H12 e12 => ?_)
  have I12 := I10.ex (e11.trans e12)
  walk_at "gg"
  obtain ⟨dx12, ts12, hist12, v12, hx12, hl12, D12, hv12, few12, one12, tv12, sm12, si12⟩ := I12.ask (by decide)
  refine ⟨x, dx12, _, rfl, hx12, x, dx12, wv, zv, l, ts12, v12, rfl, hx12, hl12, hv12, ?_⟩
  walk_at "gg"
  refine ⟨v12, ov, encT cur, rfl, tv12.dp, I12.own.dp, fits_enc _, fun H13 e13 => ?_⟩
  have I13 := I12.ex e13
  walk_at "gg"
  refine ⟨I13.tabs, fun f14 H14 eN14 T14 nf14 la14 => ?_⟩
  have I14 := I13.extN eN14 T14
  refine ⟨0, f14, _, _, _, rfl, rfl, la14, la14, fun E14 Qn14 hE14 => ?_⟩
  walk_at "gg"
  obtain ⟨dx14, _, _, _, hx14, _⟩ := I14.ask (by decide)
  refine ⟨x, dx14, _, rfl, hx14, no_run wv zv l, ?_⟩
  walk_at "gg"
  refine g_newL (by simp) fun l15 H15 n15 e15 h15 => ?_
  walk_at "gg"
  refine g_newL (by simp) fun l16 H16 n16 e16 h16 => ?_
  walk_at "gg"
  have I16 := I14.ex (e15.trans e16)
  obtain ⟨xs14, q14⟩ := I14.row.lst
  refine ⟨(r, a, ns), _, _, rfl, I16.row, h16, (ne_of_none (e15 _ _ q14) n16).symm, by simp, by simp, fun x17 H17 m17 f17 R17 => ?_⟩
  have I17 := I16.fr f17 R17
  have h17 := f17 _ _ (ne_of_none q14 n15).symm (e16 _ _ h15)
  obtain ⟨d17, dv17, nd17⟩ : ∃ d, DaV K H17 x17 d ∧ isStrD d = false := by
    simp only [List.mem_cons, List.not_mem_nil, or_false] at m17
    rcases m17 with rfl | rfl | rfl | rfl
    · exact ⟨_, .non, rfl⟩
    · exact ⟨_, .int _, rfl⟩
    · exact ⟨.list [], .lst h17, rfl⟩
    · exact ⟨_, .bl _, rfl⟩
  walk_at "gg"
  refine run_not I17 (by decide) dv17 nd17 (hE14 2 T.e_NotText "text" ⟨rfl, T.x_NotText, T.m_NotText⟩ rfl _ (fun H18 e18 => ?_))
  have I18 := I17.ex e18
  walk_at "gg"
  refine ⟨I18.tabs, fun f19 H19 eN19 T19 nf19 la19 => ?_⟩
  have I19 := I18.extN eN19 T19
  refine ⟨0, f19, _, _, _, rfl, rfl, la19, la19, fun E19 Qn19 hE19 => ?_⟩
  walk_at "gg"
  intro x20 dx20 nx20 nd20 ne20
  have e20 : Ex H19 (L2.upd (L2.upd H19 dx20 (.own x20)) x20 (.ins T.a_Desk dx20 [])) := (Evl.Ex.new nd20).trans (Evl.Ex.new (by rw [upd_ne (Ne.symm ne20)]; exact nx20))
  refine ⟨x20, dx20, .non, .non, none, none, rfl, upd_same, rfl, .inl rfl, fun _ => hE19 1 T.e_BadLibrary "library" ⟨rfl, T.x_BadLibrary, T.m_BadLibrary⟩ rfl _ (fun H21 e21 => ?_), (fun h => nomatch h), (fun _ _ h => nomatch h)⟩
  have I21 := I19.ex (e20.trans e21)
  walk_at "gg"
  refine ⟨I21.tabs, fun f22 H22 eN22 T22 nf22 la22 => ?_⟩
  have I22 := I21.extN eN22 T22
  refine ⟨0, f22, _, _, _, rfl, rfl, la22, la22, fun E22 Qn22 hE22 => ?_⟩
  walk_at "gg"
  intro x23 dx23 nx23 nd23 ne23
  have e23 : Ex H22 (L2.upd (L2.upd H22 dx23 (.own x23)) x23 (.ins T.a_Desk dx23 [])) := (Evl.Ex.new nd23).trans (Evl.Ex.new (by rw [upd_ne (Ne.symm ne23)]; exact nx23))
  refine ⟨x23, dx23, wv, .non, some y, none, rfl, upd_same, (I22.way).tr (TrT.of e23), .inr rfl, (fun h => nomatch h), fun _ _ => hE22 0 T.e_BadZone "zone" ⟨rfl, T.x_BadZone, T.m_BadZone⟩ rfl _ (fun H24 e24 => ?_), (fun _ _ _ h => nomatch h)⟩
  walk_at "gg"
  exact k _
end
end
end TH
set_option maxHeartbeats 0
namespace TH
open PySem PySem.Spec PyProof.Rows L2
theorem facts {P : Program} {w : World} {K : PySem.W.Frag} {h : Heap} {mg : Str → Option Value} {f : Addr} (X : K.In h) (G : h.Ns mainGlobals mg) (hfa : mg ("law" : Str) = some (.ref f)) (c : He.SaysX fa fn ts tfs (psB ps) w h K) (cg : fnWA K (gd.path K) = gd.val) :
    ∃ fd : FuncData, (∀ (s : Shared) (v : Value), BindsTo s fd ⟨[v], []⟩ [("script", v)]) ∧ ∀ base : Heap, K.In base → base.Ns mainGlobals mg → LamX.TabB base mg (He.cT K ("law", none)).1 (He.cT K ("law", none)).2 → FnOk P w K mg base CX0 11 f fd ["script"] (sp_lawT K) := by
  have cp : ∀ (i : Nat) {p : PySem.W.Frag → Bool}, ps[i]? = some p → p K = true := fun i p hp => psB_at c.more hp
  obtain ⟨fd0, F0⟩ := c.t.d.def_ 0 (d := d_offset_in_force) rfl
  have b0 : Binds K fd0 ["zone", "instant"] [] := FunD.bindsN F0 fun _ _ _ _ _ _ us hl => match us, hl with | [_, _], _ => rfl
  obtain ⟨fd1, F1⟩ := c.t.d.def_ 1 (d := d_instants_with) rfl
  have b1 : Binds K fd1 ["zone", "reading"] [] := FunD.bindsN F1 fun _ _ _ _ _ _ us hl => match us, hl with | [_, _], _ => rfl
  obtain ⟨fd2, F2⟩ := c.t.d.def_ 2 (d := d_offset_before_gap) rfl
  have b2 : Binds K fd2 ["zone", "reading"] [] := FunD.bindsN F2 fun _ _ _ _ _ _ us hl => match us, hl with | [_, _], _ => rfl
  obtain ⟨fd3, F3⟩ := c.t.d.def_ 3 (d := d_instant_of_time) rfl
  have b3 : Binds K fd3 ["library", "zone", "time"] [] := FunD.bindsN F3 fun _ _ _ _ _ _ us hl => match us, hl with | [_, _, _], _ => rfl
  obtain ⟨fd4, F4⟩ := c.t.d.def_ 4 (d := d_time_at) rfl
  have b4 : Binds K fd4 ["library", "zone", "instant"] [] := FunD.bindsN F4 fun _ _ _ _ _ _ us hl => match us, hl with | [_, _, _], _ => rfl
  obtain ⟨fd5, F5⟩ := c.t.d.def_ 5 (d := d_time_read) rfl
  have b5 : Binds K fd5 ["library", "zone", "reading"] [] := FunD.bindsN F5 fun _ _ _ _ _ _ us hl => match us, hl with | [_, _, _], _ => rfl
  obtain ⟨fd6, F6⟩ := c.t.d.def_ 6 (d := d_place_of) rfl
  have b6 : Binds K fd6 ["way", "library", "zone", "time"] [] := FunD.bindsN F6 fun _ _ _ _ _ _ us hl => match us, hl with | [_, _, _, _], _ => rfl
  obtain ⟨fd7, F7⟩ := c.t.d.def_ 7 (d := d_time_after) rfl
  have b7 : Binds K fd7 ["library", "zone", "time", "duration"] [] := FunD.bindsN F7 fun _ _ _ _ _ _ us hl => match us, hl with | [_, _, _, _], _ => rfl
  obtain ⟨fd8, F8⟩ := c.t.d.def_ 8 (d := d_integer_of) rfl
  have b8 : Binds K fd8 ["word"] [] := FunD.bindsN F8 fun _ _ _ _ _ _ us hl => match us, hl with | [_], _ => rfl
  obtain ⟨fd9, F9⟩ := c.t.d.def_ 9 (d := d_is_between) rfl
  have b9 : Binds K fd9 ["value", "low", "high"] [] := FunD.bindsN F9 fun _ _ _ _ _ _ us hl => match us, hl with | [_, _, _], _ => rfl
  obtain ⟨fd10, F10⟩ := c.t.d.def_ 10 (d := d_is_tuple_of) rfl
  have b10 : Binds K fd10 ["many", "value"] [] := FunD.bindsN F10 fun _ _ _ _ _ _ us hl => match us, hl with | [_, _], _ => rfl
  obtain ⟨fd11, F11⟩ := c.t.d.def_ 11 (d := d_is_instant) rfl
  have b11 : Binds K fd11 ["value"] [] := FunD.bindsN F11 fun _ _ _ _ _ _ us hl => match us, hl with | [_], _ => rfl
  obtain ⟨fd12, F12⟩ := c.t.d.def_ 12 (d := d_is_reading) rfl
  have b12 : Binds K fd12 ["value"] [] := FunD.bindsN F12 fun _ _ _ _ _ _ us hl => match us, hl with | [_], _ => rfl
  obtain ⟨fd13, F13⟩ := c.t.d.def_ 13 (d := d_is_duration) rfl
  have b13 : Binds K fd13 ["value"] [] := FunD.bindsN F13 fun _ _ _ _ _ _ us hl => match us, hl with | [_], _ => rfl
  obtain ⟨fd14, F14⟩ := c.t.d.def_ 14 (d := d_is_zone) rfl
  have b14 : Binds K fd14 ["value"] [] := FunD.bindsN F14 fun _ _ _ _ _ _ us hl => match us, hl with | [_], _ => rfl
  obtain ⟨fd15, F15⟩ := c.t.d.def_ 15 (d := d_are_changes_after) rfl
  have b15 : Binds K fd15 ["offset", "changes"] [] := FunD.bindsN F15 fun _ _ _ _ _ _ us hl => match us, hl with | [_, _], _ => rfl
  obtain ⟨fd16, F16⟩ := c.t.d.def_ 16 (d := d_is_change_after) rfl
  have b16 : Binds K fd16 ["before", "earliest", "value"] [] := FunD.bindsN F16 fun _ _ _ _ _ _ us hl => match us, hl with | [_, _, _], _ => rfl
  obtain ⟨fd17, F17⟩ := c.t.d.def_ 17 (d := d_check_zone) rfl
  have b17 : Binds K fd17 ["value"] [] := FunD.bindsN F17 fun _ _ _ _ _ _ us hl => match us, hl with | [_], _ => rfl
  obtain ⟨fd18, F18⟩ := c.t.d.def_ 18 (d := d_is_library) rfl
  have b18 : Binds K fd18 ["value"] [] := FunD.bindsN F18 fun _ _ _ _ _ _ us hl => match us, hl with | [_], _ => rfl
  obtain ⟨fd19, F19⟩ := c.t.d.def_ 19 (d := d_check_library) rfl
  have b19 : Binds K fd19 ["value"] [] := FunD.bindsN F19 fun _ _ _ _ _ _ us hl => match us, hl with | [_], _ => rfl
  obtain ⟨fd20, F20⟩ := c.t.d.def_ 20 (d := d_check_text) rfl
  have b20 : Binds K fd20 ["value"] [] := FunD.bindsN F20 fun _ _ _ _ _ _ us hl => match us, hl with | [_], _ => rfl
  obtain ⟨fd21, F21⟩ := c.t.d.def_ 21 (d := d_reading_told) rfl
  have b21 : Binds K fd21 ["time"] [] := FunD.bindsN F21 fun _ _ _ _ _ _ us hl => match us, hl with | [_], _ => rfl
  obtain ⟨fd22, F22⟩ := c.t.d.def_ 22 (d := d_instant_told) rfl
  have b22 : Binds K fd22 ["library", "zone", "time"] [] := FunD.bindsN F22 fun _ _ _ _ _ _ us hl => match us, hl with | [_, _, _], _ => rfl
  obtain ⟨fd23, F23⟩ := c.t.d.def_ 23 (d := d_law_taken) rfl
  have b23 : Binds K fd23 ["row", "many"] [] := FunD.bindsN F23 fun _ _ _ _ _ _ us hl => match us, hl with | [_, _], _ => rfl
  obtain ⟨fd24, F24⟩ := c.t.d.def_ 24 (d := d_law_pick) rfl
  have b24 : Binds K fd24 ["row", "kinds"] [] := FunD.bindsN F24 fun _ _ _ _ _ _ us hl => match us, hl with | [_, _], _ => rfl
  obtain ⟨fd25, F25⟩ := c.t.d.def_ 25 (d := d_law_alike) rfl
  have b25 : Binds K fd25 ["found", "due"] [] := FunD.bindsN F25 fun _ _ _ _ _ _ us hl => match us, hl with | [_, _], _ => rfl
  obtain ⟨fd26, F26⟩ := c.t.d.def_ 26 (d := d_law_zone) rfl
  have b26 : Binds K fd26 ["row", "kind"] [] := FunD.bindsN F26 fun _ _ _ _ _ _ us hl => match us, hl with | [_, _], _ => rfl
  obtain ⟨fd27, F27⟩ := c.t.d.def_ 27 (d := d_law_library) rfl
  have b27 : Binds K fd27 ["row"] [] := FunD.bindsN F27 fun _ _ _ _ _ _ us hl => match us, hl with | [_], _ => rfl
  obtain ⟨fd28, F28⟩ := c.t.d.def_ 28 (d := d_law_offset) rfl
  have b28 : Binds K fd28 ["zone", "instant"] [] := FunD.bindsN F28 fun _ _ _ _ _ _ us hl => match us, hl with | [_, _], _ => rfl
  obtain ⟨fd29, F29⟩ := c.t.d.def_ 29 (d := d_law_instants) rfl
  have b29 : Binds K fd29 ["zone", "reading"] [] := FunD.bindsN F29 fun _ _ _ _ _ _ us hl => match us, hl with | [_, _], _ => rfl
  obtain ⟨fd30, F30⟩ := c.t.d.def_ 30 (d := d_law_before) rfl
  have b30 : Binds K fd30 ["zone", "reading"] [] := FunD.bindsN F30 fun _ _ _ _ _ _ us hl => match us, hl with | [_, _], _ => rfl
  obtain ⟨fd31, F31⟩ := c.t.d.def_ 31 (d := d_law_instant) rfl
  have b31 : Binds K fd31 ["way", "zone", "time"] [] := FunD.bindsN F31 fun _ _ _ _ _ _ us hl => match us, hl with | [_, _, _], _ => rfl
  obtain ⟨fd32, F32⟩ := c.t.d.def_ 32 (d := d_law_at) rfl
  have b32 : Binds K fd32 ["way", "zone", "instant"] [] := FunD.bindsN F32 fun _ _ _ _ _ _ us hl => match us, hl with | [_, _, _], _ => rfl
  obtain ⟨fd33, F33⟩ := c.t.d.def_ 33 (d := d_law_read) rfl
  have b33 : Binds K fd33 ["way", "zone", "reading"] [] := FunD.bindsN F33 fun _ _ _ _ _ _ us hl => match us, hl with | [_, _, _], _ => rfl
  obtain ⟨fd34, F34⟩ := c.t.d.def_ 34 (d := d_law_add) rfl
  have b34 : Binds K fd34 ["way", "zone", "time", "hours"] [] := FunD.bindsN F34 fun _ _ _ _ _ _ us hl => match us, hl with | [_, _, _, _], _ => rfl
  obtain ⟨fd35, F35⟩ := c.t.d.def_ 35 (d := d_law_spot) rfl
  have b35 : Binds K fd35 ["row", "zone"] [] := FunD.bindsN F35 fun _ _ _ _ _ _ us hl => match us, hl with | [_, _], _ => rfl
  obtain ⟨fd36, F36⟩ := c.t.d.def_ 36 (d := d_law_hours) rfl
  have b36 : Binds K fd36 ["row"] [] := FunD.bindsN F36 fun _ _ _ _ _ _ us hl => match us, hl with | [_], _ => rfl
  obtain ⟨fd37, F37⟩ := c.t.d.def_ 37 (d := d_law_wrong) rfl
  have b37 : Binds K fd37 ["work"] [] := FunD.bindsN F37 fun _ _ _ _ _ _ us hl => match us, hl with | [_], _ => rfl
  obtain ⟨fd38, F38⟩ := c.t.d.def_ 38 (d := d_law) rfl
  have b38 : Binds K fd38 ["script"] [] := FunD.bindsN F38 fun _ _ _ _ _ _ us hl => match us, hl with | [_], _ => rfl
  obtain ⟨fd39, F39⟩ := c.t.d.def_ 39 (d := d_Desk_init) rfl
  have b39 : Binds K fd39 ["self", "library", "zone"] [] := FunD.bindsN F39 fun _ _ _ _ _ _ us hl => match us, hl with | [_, _, _], _ => rfl
  obtain ⟨fd40, F40⟩ := c.t.d.def_ 40 (d := d_Desk_run) rfl
  have b40 : Binds K fd40 ["self", "line"] [] := FunD.bindsN F40 fun _ _ _ _ _ _ us hl => match us, hl with | [_, _], _ => rfl
  obtain ⟨fd41, F41⟩ := c.t.d.def_ 41 (d := d_Desk_time_by) rfl
  have b41 : Binds K fd41 ["self", "word", "number"] [] := FunD.bindsN F41 fun _ _ _ _ _ _ us hl => match us, hl with | [_, _, _], _ => rfl
  obtain ⟨fd42, F42⟩ := c.t.d.def_ 42 (d := d_Desk_undo) rfl
  have b42 : Binds K fd42 ["self"] [] := FunD.bindsN F42 fun _ _ _ _ _ _ us hl => match us, hl with | [_], _ => rfl
  obtain ⟨fdg, Fg⟩ := GetD.funD (d := gd) cg (cp 19 (p := GetD.ok gd) rfl)
  have bg : Binds K fdg ["self"] [] := FunD.bindsN Fg fun _ _ _ _ _ _ us hl => match us, hl with | [_], _ => rfl
  obtain ⟨u0, g0⟩ := He.str_ok X G (c.t.d.fact 59 (f := .str "REFUSED" "refused") rfl)
  obtain ⟨u1, g1⟩ := He.int_ok X G (c.t.d.fact 60 (f := .int "MOST_DIGITS" 9) rfl)
  obtain ⟨u2, g2⟩ := He.str_ok X G (c.t.d.fact 61 (f := .str "DIGITS" "0123456789") rfl)
  obtain ⟨u3, g3⟩ := He.int_ok X G (c.t.d.fact 62 (f := .int "MOST_INSTANT" 100000) rfl)
  obtain ⟨u4, g4⟩ := He.int_ok X G (c.t.d.fact 63 (f := .int "MOST_READING" 90000) rfl)
  obtain ⟨u5, g5⟩ := He.int_ok X G (c.t.d.fact 64 (f := .int "MOST_DURATION" 9000) rfl)
  obtain ⟨u6, g6⟩ := He.int_ok X G (c.t.d.fact 65 (f := .int "MOST_FIRST_OFFSET" 12) rfl)
  obtain ⟨u7, g7⟩ := He.int_ok X G (c.t.d.fact 66 (f := .int "MOST_CHANGES" 8) rfl)
  obtain ⟨u8, g8⟩ := He.int_ok X G (c.t.d.fact 67 (f := .int "MOST_CHANGE_INSTANT" 1000) rfl)
  obtain ⟨u9, g9⟩ := He.int_ok X G (c.t.d.fact 68 (f := .int "LEAST_DISTANCE" 12) rfl)
  obtain ⟨u10, g10⟩ := He.int_ok X G (c.t.d.fact 69 (f := .int "MOST_STEP" 3) rfl)
  obtain ⟨u11, g11⟩ := He.int_ok X G (c.t.d.fact 70 (f := .int "MOST_LATER_OFFSET" 15) rfl)
  obtain ⟨u16, g16⟩ := He.int_ok X G (c.t.d.fact 75 (f := .int "FIRST_INSTANT" (-500)) rfl)
  let T : Txt w K mg := ⟨⟨_, fd0, F0, b0, He.glo_ok X G (c.t.d.fact 0 (f := .glo "offset_in_force") rfl)⟩,
    ⟨_, fd1, F1, b1, He.glo_ok X G (c.t.d.fact 1 (f := .glo "instants_with") rfl)⟩,
    ⟨_, fd2, F2, b2, He.glo_ok X G (c.t.d.fact 2 (f := .glo "offset_before_gap") rfl)⟩,
    ⟨_, fd3, F3, b3, He.glo_ok X G (c.t.d.fact 3 (f := .glo "instant_of_time") rfl)⟩,
    ⟨_, fd4, F4, b4, He.glo_ok X G (c.t.d.fact 4 (f := .glo "time_at") rfl)⟩,
    ⟨_, fd5, F5, b5, He.glo_ok X G (c.t.d.fact 5 (f := .glo "time_read") rfl)⟩,
    ⟨_, fd6, F6, b6, He.glo_ok X G (c.t.d.fact 6 (f := .glo "place_of") rfl)⟩,
    ⟨_, fd7, F7, b7, He.glo_ok X G (c.t.d.fact 7 (f := .glo "time_after") rfl)⟩,
    ⟨_, fd8, F8, b8, He.glo_ok X G (c.t.d.fact 8 (f := .glo "integer_of") rfl)⟩,
    ⟨_, fd9, F9, b9, He.glo_ok X G (c.t.d.fact 9 (f := .glo "is_between") rfl)⟩,
    ⟨_, fd10, F10, b10, He.glo_ok X G (c.t.d.fact 10 (f := .glo "is_tuple_of") rfl)⟩,
    ⟨_, fd11, F11, b11, He.glo_ok X G (c.t.d.fact 11 (f := .glo "is_instant") rfl)⟩,
    ⟨_, fd12, F12, b12, He.glo_ok X G (c.t.d.fact 12 (f := .glo "is_reading") rfl)⟩,
    ⟨_, fd13, F13, b13, He.glo_ok X G (c.t.d.fact 13 (f := .glo "is_duration") rfl)⟩,
    ⟨_, fd14, F14, b14, He.glo_ok X G (c.t.d.fact 14 (f := .glo "is_zone") rfl)⟩,
    ⟨_, fd15, F15, b15, He.glo_ok X G (c.t.d.fact 15 (f := .glo "_are_changes_after") rfl)⟩,
    ⟨_, fd16, F16, b16, He.glo_ok X G (c.t.d.fact 16 (f := .glo "_is_change_after") rfl)⟩,
    ⟨_, fd17, F17, b17, He.glo_ok X G (c.t.d.fact 17 (f := .glo "check_zone") rfl)⟩,
    ⟨_, fd18, F18, b18, He.glo_ok X G (c.t.d.fact 18 (f := .glo "is_library") rfl)⟩,
    ⟨_, fd19, F19, b19, He.glo_ok X G (c.t.d.fact 19 (f := .glo "check_library") rfl)⟩,
    ⟨_, fd20, F20, b20, He.glo_ok X G (c.t.d.fact 20 (f := .glo "check_text") rfl)⟩,
    ⟨_, fd21, F21, b21, He.glo_ok X G (c.t.d.fact 21 (f := .glo "_reading_told") rfl)⟩,
    ⟨_, fd22, F22, b22, He.glo_ok X G (c.t.d.fact 22 (f := .glo "_instant_told") rfl)⟩,
    ⟨_, fd23, F23, b23, He.glo_ok X G (c.t.d.fact 23 (f := .glo "_law_taken") rfl)⟩,
    ⟨_, fd24, F24, b24, He.glo_ok X G (c.t.d.fact 24 (f := .glo "_law_pick") rfl)⟩,
    ⟨_, fd25, F25, b25, He.glo_ok X G (c.t.d.fact 25 (f := .glo "_law_alike") rfl)⟩,
    ⟨_, fd26, F26, b26, He.glo_ok X G (c.t.d.fact 26 (f := .glo "_law_zone") rfl)⟩,
    ⟨_, fd27, F27, b27, He.glo_ok X G (c.t.d.fact 27 (f := .glo "_law_library") rfl)⟩,
    ⟨_, fd28, F28, b28, He.glo_ok X G (c.t.d.fact 28 (f := .glo "_law_offset") rfl)⟩,
    ⟨_, fd29, F29, b29, He.glo_ok X G (c.t.d.fact 29 (f := .glo "_law_instants") rfl)⟩,
    ⟨_, fd30, F30, b30, He.glo_ok X G (c.t.d.fact 30 (f := .glo "_law_before") rfl)⟩,
    ⟨_, fd31, F31, b31, He.glo_ok X G (c.t.d.fact 31 (f := .glo "_law_instant") rfl)⟩,
    ⟨_, fd32, F32, b32, He.glo_ok X G (c.t.d.fact 32 (f := .glo "_law_at") rfl)⟩,
    ⟨_, fd33, F33, b33, He.glo_ok X G (c.t.d.fact 33 (f := .glo "_law_read") rfl)⟩,
    ⟨_, fd34, F34, b34, He.glo_ok X G (c.t.d.fact 34 (f := .glo "_law_add") rfl)⟩,
    ⟨_, fd35, F35, b35, He.glo_ok X G (c.t.d.fact 35 (f := .glo "_law_spot") rfl)⟩,
    ⟨_, fd36, F36, b36, He.glo_ok X G (c.t.d.fact 36 (f := .glo "_law_hours") rfl)⟩,
    ⟨_, fd37, F37, b37, He.glo_ok X G (c.t.d.fact 37 (f := .glo "_law_wrong") rfl)⟩,
    ⟨_, fd38, F38, b38, He.glo_ok X G (c.t.d.fact 38 (f := .glo "law") rfl)⟩,
    ⟨_, fd39, F39, b39⟩,
    ⟨_, fdg, Fg, bg⟩,
    ⟨_, fd40, F40, b40⟩,
    ⟨_, fd41, F41, b41⟩,
    ⟨_, fd42, F42, b42⟩,
    He.ga K "Desk",
    He.glo_ok X G (c.t.d.fact 76 (f := .glo "Desk") rfl),
    He.cls_ok (c.t.d.fact 77 (f := .cls "Desk") rfl),
    He.mkr_ok (c.t.d.fact 78 (f := .mkr "Desk") rfl),
    He.noat_ok (c.t.d.fact 79 (f := .noat "Desk" "_library") rfl),
    He.noat_ok (c.t.d.fact 80 (f := .noat "Desk" "_times") rfl),
    He.noat_ok (c.t.d.fact 81 (f := .noat "Desk" "_zone") rfl),
    propAd "Desk" "time" K,
    propB_ok (cp 18 (p := propB "Desk" "time") rfl),
    He.meth_ok (c.t.d.fact 82 (f := .meth "Desk" "run") rfl),
    He.meth_ok (c.t.d.fact 83 (f := .meth "Desk" "_time_by") rfl),
    He.meth_ok (c.t.d.fact 84 (f := .meth "Desk" "undo") rfl),
    gaF "TimeError" K,
    He.glo_ok X G (c.t.d.fact 39 (f := .glo "TimeError") rfl),
    gaF "BadZone" K,
    He.glo_ok X G (c.t.d.fact 40 (f := .glo "BadZone") rfl),
    errB_ok (cp 4 (p := errB (gaF "BadZone")) rfl),
    of_decide_eq_true (cp 5 (p := excB (gaF "BadZone") (gaF "TimeError")) rfl),
    gaF "BadLibrary" K,
    He.glo_ok X G (c.t.d.fact 41 (f := .glo "BadLibrary") rfl),
    errB_ok (cp 6 (p := errB (gaF "BadLibrary")) rfl),
    of_decide_eq_true (cp 7 (p := excB (gaF "BadLibrary") (gaF "TimeError")) rfl),
    gaF "NotText" K,
    He.glo_ok X G (c.t.d.fact 42 (f := .glo "NotText") rfl),
    errB_ok (cp 8 (p := errB (gaF "NotText")) rfl),
    of_decide_eq_true (cp 9 (p := excB (gaF "NotText") (gaF "TimeError")) rfl),
    gaF "InvalidText" K,
    He.glo_ok X G (c.t.d.fact 43 (f := .glo "InvalidText") rfl),
    errB_ok (cp 10 (p := errB (gaF "InvalidText")) rfl),
    of_decide_eq_true (cp 11 (p := excB (gaF "InvalidText") (gaF "TimeError")) rfl),
    gaF "NotNow" K,
    He.glo_ok X G (c.t.d.fact 44 (f := .glo "NotNow") rfl),
    errB_ok (cp 12 (p := errB (gaF "NotNow")) rfl),
    of_decide_eq_true (cp 13 (p := excB (gaF "NotNow") (gaF "TimeError")) rfl),
    gaF "NothingToUndo" K,
    He.glo_ok X G (c.t.d.fact 45 (f := .glo "NothingToUndo") rfl),
    errB_ok (cp 14 (p := errB (gaF "NothingToUndo")) rfl),
    of_decide_eq_true (cp 15 (p := excB (gaF "NothingToUndo") (gaF "TimeError")) rfl),
    kits_ok (cp 16 (p := kitsB [gaF "BadZone", gaF "BadLibrary", gaF "NotText", gaF "InvalidText", gaF "NotNow", gaF "NothingToUndo"]) rfl) (cp 17 (p := apartB [gaF "BadZone", gaF "BadLibrary", gaF "NotText", gaF "InvalidText", gaF "NotNow", gaF "NothingToUndo"]) rfl),
    He.free_ok X G (c.t.d.fact 46 (f := .free "tuple") rfl),
    He.free_ok X G (c.t.d.fact 47 (f := .free "sorted") rfl),
    He.free_ok X G (c.t.d.fact 48 (f := .free "len") rfl),
    He.free_ok X G (c.t.d.fact 49 (f := .free "int") rfl),
    He.free_ok X G (c.t.d.fact 50 (f := .free "all") rfl),
    He.free_ok X G (c.t.d.fact 51 (f := .free "str") rfl),
    He.free_ok X G (c.t.d.fact 52 (f := .free "isinstance") rfl),
    He.free_ok X G (c.t.d.fact 53 (f := .free "bool") rfl),
    He.free_ok X G (c.t.d.fact 54 (f := .free "abs") rfl),
    He.free_ok X G (c.t.d.fact 55 (f := .free "list") rfl),
    He.free_ok X G (c.t.d.fact 56 (f := .free "range") rfl),
    He.free_ok X G (c.t.d.fact 57 (f := .free "max") rfl),
    He.free_ok X G (c.t.d.fact 58 (f := .free "property") rfl),
    u0,
    g0,
    u1,
    g1,
    u2,
    g2,
    u3,
    g3,
    u4,
    g4,
    u5,
    g5,
    u6,
    g6,
    u7,
    g7,
    u8,
    g8,
    u9,
    g9,
    u10,
    g10,
    u11,
    g11,
    He.ga K "SUMS",
    He.glo_ok X G (c.t.d.fact 71 (f := .glo "SUMS") rfl),
    fun H => tupD_ok (cp 0 (p := tupD (gaF "SUMS") [.str "elapsed", .str "wall"]) rfl) H,
    He.ga K "ORDERS",
    He.glo_ok X G (c.t.d.fact 72 (f := .glo "ORDERS") rfl),
    fun H => tupD_ok (cp 1 (p := tupD (gaF "ORDERS") [.str "elapsed", .str "wall"]) rfl) H,
    He.ga K "GAPS",
    He.glo_ok X G (c.t.d.fact 73 (f := .glo "GAPS") rfl),
    fun H => tupD_ok (cp 2 (p := tupD (gaF "GAPS") [.str "keep", .str "refuse", .str "shift"]) rfl) H,
    He.ga K "FOLDS",
    He.glo_ok X G (c.t.d.fact 74 (f := .glo "FOLDS") rfl),
    fun H => tupD_ok (cp 3 (p := tupD (gaF "FOLDS") [.str "both", .str "first", .str "refuse", .str "second"]) rfl) H,
    u16,
    g16⟩
  have e := hfa.symm.trans (He.glo_ok X G (c.t.d.fact 38 (f := .glo "law") rfl))
  cases e
  have b := FunD.bindsA (ps := ["script"]) F38 fun _ _ _ _ _ _ us hl => match us, hl with | [_], _ => rfl
  exact ⟨fd38, fun s v => b s [v] rfl, fun base _ _ TB => ok_law T rfl TB⟩
end TH
open PySem PySem.W PySem.Calls PyProof.Rows in
set_option maxRecDepth 100000 in
set_option maxHeartbeats 0 in
theorem PySem.Challenge.cw_timeheld_k09_whole_desks_holds : PySem.Challenge.rw_timeheld_k09_whole_desks.Holds := by
  w_on; o_law
  refine HandSHeadRun.head_any (r := OpenLaw.row PySem.Challenge.rw_timeheld_k09_whole_desks) (q := view (OpenLaw.row PySem.Challenge.rw_timeheld_k09_whole_desks).prog [74]) (H := TH.hk) (ob := TH.ob) (M := 14000) (loose := TH.loose) (d := HandSHeadRun.topDef (OpenLaw.row PySem.Challenge.rw_timeheld_k09_whole_desks).prog 74) (kwd := []) TH.ob_eq
    (by kernel_rfl) (fun s => by kernel_rfl) TH.run (by kernel_rfl) (by kernel_rfl) (by kernel_rfl) (by rfl) (by first | assumption | decide +kernel) (by decide +kernel) ⟨rfl, rfl, rfl, rfl, rfl, by decide +kernel⟩ ?hw ?hc
  case hw => w_witness2
  case hc =>
    refine LamX.walk_ofTsE (l := PySem.Challenge.rw_timeheld_k09_whole_desks) (n := 63) (k := 11) (x := "script") (CX := fun _ => L2.CX0) rfl (by decide) (by kernel_rfl) ⟨rfl, by decide, by decide⟩ ?F (fun _ _ _ _ _ z => z)
    intro w mg fa h Y G hmg0
    obtain ⟨K, KX, c, cg⟩ := Y
    have hmg : mg ("law" : PySem.Str) = some (.ref fa) := by
      have e : (HandSHeadRun.topDef (OpenLaw.row PySem.Challenge.rw_timeheld_k09_whole_desks).prog 74).name = ("law" : PySem.Str) := by kernel_rfl
      rw [← e]
      exact hmg0
    obtain ⟨fd, hb, hF⟩ := TH.facts (P := (PySem.Challenge.rw_timeheld_k09_whole_desks).prog) (w := w) KX G hmg c cg
    have m : (("law", none) : He.Defn) ∈ TH.tfs := List.mem_singleton.mpr rfl
    refine ⟨K, KX, fd, [He.cT K ("law", none)], TH.sp_lawT K, fun p hp => ?_, fun p hp => ?_, fun p hp => ?_, hb, fun H a ns hl _ hH hS => ⟨a, ns, rfl, hS, hl, hH _ (List.mem_singleton.mpr rfl), fun _ => rfl⟩, fun base KB GB TB => hF base KB GB (TB _ (List.mem_singleton.mpr rfl))⟩
    · rw [List.mem_singleton.mp hp]; exact c.empty _ m
    · rw [List.mem_singleton.mp hp]; exact c.out _ m
    · rw [List.mem_singleton.mp hp]; exact PySem.W.codeHd_of_K KX (c.hd _ m)
