import PyProof.Rows.All
import Wide.All
import OpenK.AllK
import Wide.FinOn
import PyProof.EqAt
import PyProof.EqKinds
import PyProof.TupleCall
import Open.SpecLaws
import KE.OsGo
import PySem.Challenge.RW_anyworths_k01_pools_people_and_amounts_c
import HandS.ForMost
import HandS.ForExc
import HandS.TryMany
import HandS.ExcInit
import HandS.ExcField
import HandS.Wide
import HandS.IsInst
import HandS.Defaults
import HandS.Small
import HandS.SlotsOwn
import HandS.SetFor
import KE.GoesMore
import KE.GoesEnum
import KE.SortCalls
import PyProof.InstEq
import PyProof.TupleOfSeq
import PyProof.SumWalkG
import PyProof.WalkInts
import PyProof.Rows.SortShellAny
import PyProof.Rows.SortWalk
import KE.OsSort
import OpenK.KEqL
import HandS.TupAny
import HandS.TupMul
import KE.KFind
import HandS.Strs
set_option Elab.async false
set_option linter.all false
set_option maxRecDepth 100000
set_option maxHeartbeats 4000000
/-! ## The general part: several except clauses with and without a name, own errors, defs as they stand behind the top -/
namespace Gen
open PySem PySem.Spec PyProof.Rows L2
/-- a suite's reading: the exception's place, its class, its dict -/
abbrev SU := Addr → Value → Option Addr → TS
/-- what follows a suite that has named its exception: the name's slot is empty again -/
def Ends.off (D : Ends) (i : Nat) : Ends :=
  { nx := fun z h => D.nx (z.set i none) h, rt := D.rt, bk := fun z h => D.bk (z.set i none) h, ct := fun z h => D.ct (z.set i none) h }
def suiteOf (D : Ends) (o : Option Nat) (t : SU) (a : Addr) (c : Value) (d : Option Addr) (z : L2.St) (h : Hp) : Prop :=
  match o with
  | none => t a c d D z h
  | some i => t a c d (Ends.off D i) (z.set i (some (.ref a))) h
/-- what the clauses wish, one behind the other -/
def wMix (K : PySem.W.Frag) (Wo : WX) (D : Ends) : List (Value × Option Nat × SU) → WX
  | [] => Wo
  | (c, o, t) :: rest => fun k d z h => ∃ yes, PySem.W.exmOne K k c = some yes ∧ (yes = true → ∀ a, h a = none → suiteOf D o t a k d z h) ∧ (yes = false → wMix K Wo D rest k d z h)
inductive HdsX (X : Cx) : List ExceptHandler → List (Value × Option Nat × SU) → Prop
  | nil : HdsX X [] []
  | one {x : Str} {c : Value} {t : SU} {b : Stmt} {bs : List Stmt} {p1 p2 : Pos} {hs : List ExceptHandler} {l : List (Value × Option Nat × SU)} (nm : Names X x c)
      (su : ∀ (a : Addr) (oe : Obj) (k : Value) (d : Option Addr) (pn : List (Addr × Obj)), Zc k d oe → (∃ fs, oe.data = .fields fs) → PSs (X.suite a ((a, oe) :: pn)) (b :: bs) (t a k d))
      (r : HdsX X hs l) : HdsX X (.ExceptHandler (some (.Name x p1)) none (b :: bs) p2 :: hs) ((c, none, t) :: l)
  | asn {i : Nat} {n x : Str} {c : Value} {t : SU} {b : Stmt} {bs : List Stmt} {p1 p2 : Pos} {hs : List ExceptHandler} {l : List (Value × Option Nat × SU)} (nm : Names X x c)
      (nd : X.N.Nodup) (ni : X.N[i]? = some n) (nl : X.env.kindOf n = some .local)
      (su : ∀ (a : Addr) (oe : Obj) (k : Value) (d : Option Addr) (pn : List (Addr × Obj)), Zc k d oe → (∃ fs, oe.data = .fields fs) → PSs (X.suite a ((a, oe) :: pn)) (b :: bs) (t a k d))
      (r : HdsX X hs l) : HdsX X (.ExceptHandler (some (.Name x p1)) (some n) (b :: bs) p2 :: hs) ((c, some i, t) :: l)
section
variable {X : Cx} {body : List Stmt} {h1 : ExceptHandler} {hs : List ExceptHandler} {l : List (Value × Option Nat × SU)} {pos : Pos} {tb : WX → TS} {Wo : WX}
theorem ps_try_mix (est : X.stack = X.env :: X.outer) (efr : X.env.frame = some X.env.locals) (tkO : Takes X Wo)
    (hb : ∀ (W : WX) (pn : List (Addr × Obj)) (xe : Value → Shared → Prop), Takes (X.tr pn xe) W → PassesOwn (model X.prog X.w) X.A X.env xe → PSs (X.tr pn xe) body (tb W))
    (hh : HdsX X (h1 :: hs) l) : PS X (.Try body (h1 :: hs) [] [] pos) (fun D z h => tb (wMix X.K Wo D l) D z h) := by
  refine ⟨fun pins s z h D I red => ?_⟩
  have good := I.ok
  have efs : X.A.frames = some (X.env :: X.outer) := good.frames.trans (congrArg some est)
  refine wpAny_Try_except (wpAny_mono ((hb (wMix X.K Wo D l) (X.pn ++ pins) (fun e u1 => wpAny (model X.prog X.w) X.A (noteFrame e X.env) (fun _ u2 => wpAny (model X.prog X.w) X.A (setFlight e none) (fun _ u3 =>
    wpAny (model X.prog X.w) X.A (handleBy e X.env (h1 :: hs)) (SP X pins D) X.xe u3) X.xe u2) X.xe u1) (fun u u' air => ?_) PassesOwn.looking).run [] s z h D (I.toTry _) red) (fun fl u1 sp1 => ?_) (fun e u1 q => q))
  · obtain ⟨a, B, sI, pins2, z2, g2, k, d, rfl, J0, nb, up, sky0, na, os, ag, wish⟩ := air
    have J : Inv X pins z2 g2 sI := J0.ofTry good
    have sky : Sky B (X.env :: X.outer) a (Zc k d) X.env.locals u'.heap := est ▸ sky0
    show wpAny (model X.prog X.w) X.A (noteFrame (.ref a) X.env) _ _ _
    refine Sky.land Zc.steady efs efr sky fun hp3 fl3 up3 => ?_
    have J3 : Inv X pins z2 g2 { u' with heap := hp3 } := J.landed nb fl3.1 (up.trans up3) os ag
    obtain ⟨o3, fs3, e3, zc3, d3⟩ := fl3.there
    have offFr : ∀ {hp : Heap} {o : Obj} {fs : Array Value}, hp.FunFrames B (X.env :: X.outer) → hp.get? a = some o → o.data = .fields fs → a ∉ frs (X.env :: X.outer) := fun {hp o fs} ff eo dd hm => by
      obtain ⟨_, o', eo', nf⟩ := ff.mem hm
      cases eo.symm.trans eo'
      exact nf _ dd
    have nfr := offFr fl3.2.2.1 e3 d3
    have nL : a ≠ X.env.locals := fun q => nfr (List.mem_filterMap.mpr ⟨X.env, List.mem_cons_self, efr.trans (congrArg some q.symm)⟩)
    have nF : a ∉ X.fs := fun hm => by
      obtain ⟨en, hen, q⟩ := List.mem_filterMap.mp hm
      exact nfr (List.mem_filterMap.mpr ⟨en, List.mem_cons_of_mem _ hen, q⟩)
    have S3 := J3.suite e3 d3 na nL nF
    have looksT : PySem.W.Looks (model X.prog X.w) hp3 (typeOf (.ref a)) k := fun A Q E s kp q => wpAny_typeOf_ref (kp _ _ e3) (by rw [zc3.1]; exact q)
    have named : ∀ {x : Str} {c : Value} {np : Pos} {Q : Value → Shared → Prop} {E : Value → Shared → Prop}, Names X x c → Q c { u' with heap := hp3 } →
        wpAny (model X.prog X.w) (X.A.mark (some (.ref a))) (eval (.Name x np) X.env) Q E { u' with heap := hp3 } := fun {x c np Q E} nm q => by
      rcases nm with ⟨hg, hd, hm | ⟨hm, hv, hx⟩⟩
      · exact ld_glob (X := X.suite a ((a, o3) :: (X.pn ++ pins))) S3 hg hm q hd
      · exact ld_blt (X := X.suite a ((a, o3) :: (X.pn ++ pins))) S3 hg hm hv q hx hd
    have go : ∀ {hs' : List ExceptHandler} {l' : List (Value × Option Nat × SU)}, HdsX X hs' l' → wMix X.K Wo D l' k d z2 g2 →
        wpAny (model X.prog X.w) X.A (handleBy (.ref a) X.env hs') (SP X pins D) X.xe { u' with heap := hp3 } := by
      intro hs' l' hk
      induction hk with
      | nil =>
        intro wish
        refine wpAny_handleBy_nil ?_
        obtain ⟨q1, q2, q3, oe, fs, T, oT, ts', eo, zc, dd, one, more⟩ := id fl3
        unfold PySem.passOn
        refine wpAny_bind (wpAny_field eo dd one ?_)
        rw [if_neg (show ¬ ((Value.ref T == Value.none) = true) by simp)]
        have away : wpAny (model X.prog X.w) X.A (setFlight (.ref a) X.env.frame) (fun _ u4 => wpAny (model X.prog X.w) X.A (throw (.ref a) : Sem Flow) (SP X pins D) X.xe u4) X.xe { u' with heap := hp3 } := by
          rw [efr]
          refine HandSPX.setFlight_upZ fl3 fun hp4 sky4 up4 => wpAny_throw (tkO _ _ ?_)
          exact ⟨a, B, sI, pins, z2, g2, k, d, rfl, J, nb, (up.trans up3).trans up4, .inr (.inr (est ▸ sky4)), na, os, ag, wish⟩
        first
          | exact wpAny_bind (wpAny_pure (wpAny_bind away))
          | exact wpAny_bind away
      | @one x c t b bs p1 p2 hs2 l2 nm su r ih =>
        intro wish
        obtain ⟨yes, ex, wy, wn⟩ := wish
        refine wpAny_handleBy_cons (codeAny_handlers_test (named nm ((PySem.W.exm_one (M := model X.prog X.w) J3.kIn looksT ex).here ?_))) (by intro q; cases q)
        cases yes with
        | true =>
          refine codeAny_handlers_suite (HandSPX.lands_againZ fl3 fun hp4 fl4 up4 => ?_)
          have J4 : Inv X pins z2 g2 { u' with heap := hp4 } := J.landed nb fl4.1 ((up.trans up3).trans up4) os ag
          obtain ⟨o4, fs4, e4, zc4, d4⟩ := fl4.there
          refine wpAny_mono ((su a o4 k d (X.pn ++ pins) zc4 ⟨_, d4⟩).run [] _ _ g2 _ (J4.suite e4 d4 na nL nF) (wy rfl a na)) (fun fl u6 sp6 => ?_) (fun _ _ q => False.elim q)
          cases fl with
          | ret v =>
            obtain ⟨v6, z6, g6, S6, r6, q6⟩ := sp6
            exact ⟨_, _, _, S6.unsuite good, r6, q6⟩
          | _ =>
            obtain ⟨z6, g6, S6, q6⟩ := sp6
            exact ⟨_, _, S6.unsuite good, q6⟩
        | false =>
          show wpAny _ X.A (handleBy (.ref a) X.env hs2) _ _ _
          exact ih (wn rfl)
      | @asn i n x c t b bs p1 p2 hs2 l2 nm nd ni nl su r ih =>
        intro wish
        obtain ⟨yes, ex, wy, wn⟩ := wish
        refine wpAny_handleBy_cons (codeAny_handlers_test (named nm ((PySem.W.exm_one (M := model X.prog X.w) J3.kIn looksT ex).here ?_))) (by intro q; cases q)
        cases yes with
        | true =>
          refine codeAny_handlers_suite_as (HandSPX.lands_againZ fl3 fun hp4 fl4 up4 => ?_)
          have J4 : Inv X pins z2 g2 { u' with heap := hp4 } := J.landed nb fl4.1 ((up.trans up3).trans up4) os ag
          obtain ⟨o4, fs4, e4, zc4, d4⟩ := fl4.there
          refine store_ok (X := X.suite a ((a, o4) :: (X.pn ++ pins))) (v := .ref a) (J4.suite e4 d4 na nL nF) nd ni (.inl nl) rfl (fun u5 S5 => ?_) (.inr nl)
          refine wpAny_mono ((su a o4 k d (X.pn ++ pins) zc4 ⟨_, d4⟩).run [] u5 _ g2 _ S5 (wy rfl a na)) (fun fl u6 sp6 => ?_) (fun _ _ q => False.elim q)
          have left : ∀ {z6 : L2.St} {g6 : Hp} {R : Shared → Prop}, Inv (X.suite a ((a, o4) :: (X.pn ++ pins))) [] z6 g6 u6 → (∀ u7, Inv X pins (z6.set i none) g6 u7 → R u7) →
              wpAny (model X.prog X.w) X.A (do bindName X.env n .none; unbindBehindTheSuite X.env n p2) (fun _ u7 => R u7) X.xe u6 := fun {z6 g6 R} S6 q => gone_ok (S6.unsuite good) nd ni nl q
          cases fl with
          | ret v =>
            obtain ⟨v6, z6, g6, S6, r6, q6⟩ := sp6
            exact left S6 fun u7 J7 => ⟨_, _, _, J7, r6, q6⟩
          | _ =>
            obtain ⟨z6, g6, S6, q6⟩ := sp6
            exact left S6 fun u7 J7 => ⟨_, _, J7, q6⟩
        | false =>
          show wpAny _ X.A (handleBy (.ref a) X.env hs2) _ _ _
          exact ih (wn rfl)
    exact go hh wish
  · cases fl with
    | ret v =>
      obtain ⟨v2, z2, g2, J2, r2, q2⟩ := sp1
      exact ⟨v2, z2, g2, J2.ofTry good, r2, q2⟩
    | next =>
      obtain ⟨z2, g2, J2, q2⟩ := sp1
      exact wpAny_execs_nil ⟨z2, g2, J2.ofTry good, q2⟩
    | _ =>
      obtain ⟨z2, g2, J2, q2⟩ := sp1
      exact ⟨z2, g2, J2.ofTry good, q2⟩
end
/-! ### defs as they stand behind the top -/
def Df (K : PySem.W.Frag) (mg : Str → Option Value) (x : Str) (st : Stmt) (ps : List Str) : Prop :=
  ∃ f fd, Fun K x x st f fd ∧ mg x = some (.ref f) ∧ Binds K fd ps []
/-- with defaults; one is left out in some call -/
def DfD (K : PySem.W.Frag) (mg : Str → Option Value) (x : Str) (st : Stmt) (ps : List Str) (dvs : List V) : Prop :=
  ∃ f fd, FunD K x x (defArgs st) (defBody st) (defScope st) dvs [] f fd ∧ mg x = some (.ref f) ∧ Binds K fd ps [] ∧ ∃ ds, Vals dvs ds ∧ Binds K fd ps ds
/-- an own error without an __init__ -/
structure XP (K : PySem.W.Frag) (mg : Str → Option Value) (x : Str) (C : Addr) : Prop where
  gC : mg x = some (.ref C)
  xC : PySem.W.excIn K C [.type "ValueError", .type "Exception", .type "BaseException", .type "object"] "ValueError.__new__" = true
  kC : PySem.W.keepIn K (.ref C) = true
  eC : PySem.W.subIn K (.ref C) (.type "BaseException") = some true
  tC : PySem.W.typeIn K (.ref C) = some (.type "type")
theorem XP.made {X : Cx} {x : Str} {C : Addr} {p pos : Pos} (T : XP X.K X.mg x C) (hg : Gl X x) (hdb : (x == ("__debug__" : Str)) = false := by decide) :
    PMk X (.Call (.Name x p) [] [] pos) (fun _ H Q => Q (.ref C) none H) := by
  intro pins s z H Q I q
  refine wpAny_Call_Name_kw (ld_glob I hg T.gC (PySem.W.callWith_K0 I.kIn T.kC ?_) hdb)
  obtain ⟨bm, N, nm, qn, bs, hdct, sn, sub, ab, col, dd, k0, k1, k2, k3, k5, mN, hC, hN, hni, tl⟩ := exc_obj I.kIn T.xC
  exact wpAny_call_exc_subT F.excBase_ValueError tl hC hN hni (fun h' e hm => mk_of I hm (raises_own T.eC T.tC) q (I.hok.gone hm.new)) (by show 0 ≤ sizeLine; exact Nat.zero_le _)
/-- an own error whose __init__ keeps its arguments -/
structure XI (K : PySem.W.Frag) (mg : Str → Option Value) (x qual : Str) (st : Stmt) (ps : List Str) (C : Addr) : Prop where
  gC : mg x = some (.ref C)
  ox : OexC K C
  ini : ∃ f fd, Fun K "__init__" qual st f fd ∧ Binds K fd ps [] ∧ PySem.W.findIn K (.ref C) "__init__" = some (some (.ref f)) ∧ PySem.W.typeIn K (.ref f) = some (.type "function")
/-- the promise of an __init__ that keeps one argument as f -/
def spI1 (K : PySem.W.Frag) (C : Addr) (f : Str) : Sp := fun vs H Q _ => ∃ a v, vs = [.ref a, v] ∧ H a = some (exo a C none) ∧ OexC K C ∧ PySem.W.findIn K (.ref C) f = some none ∧
  ∀ dx, H dx = none → dx ≠ a → Q .non (upd (upd H dx (exd dx [(f, v)])) a (exo a C (some dx)))
/-- .. two arguments as f and g -/
def spI2 (K : PySem.W.Frag) (C : Addr) (f g : Str) : Sp := fun vs H Q _ => ∃ a v u, vs = [.ref a, v, u] ∧ H a = some (exo a C none) ∧ OexC K C ∧ PySem.W.findIn K (.ref C) f = some none ∧ PySem.W.findIn K (.ref C) g = some none ∧
  ∀ dx, H dx = none → dx ≠ a → Q .non (upd (upd (upd H dx (exd dx [(f, v)])) a (exo a C (some dx))) dx (exd dx [(g, u), (f, v)]))
theorem heap_made {H : Hp} {a d : Addr} {o1 o2 o3 o : HO} (ha : H a = none) (n : d ≠ a) : upd (del (upd (upd (upd H a o1) d o2) a o3) a) d o = upd H d o := by
  funext b
  by_cases hd : b = d
  · rw [hd, upd_same, upd_same]
  · rw [upd_ne hd, upd_ne hd]
    by_cases hb : b = a
    · rw [hb, del_same, ha]
    · rw [del_ne hb, upd_ne hb, upd_ne hd, upd_ne hb]
theorem raise1 {K : PySem.W.Frag} {C : Addr} {f : Str} {H : Hp} {v : V} {Q : XK} {E : XK} (T : OexC K C) (n : PySem.W.findIn K (.ref C) f = some none) (q : ∀ d, H d = none → Q (.ref C) (some d) (upd H d (.xd [(f, v)]))) :
    [v].length ≤ 1000 ∧ ∀ a, H a = none → spI1 K C f (.ref a :: ([v] ++ [])) (upd H a (exo a C none))
      (fun y H2 => y = .non ∧ ∃ (d : Addr) (fs : List (Str × V)), H2 a = some (exo a C (some d)) ∧ H2 d = some (exd d fs) ∧ H d = none ∧ Q (.ref C) (some d) (upd (del H2 a) d (.xd fs))) E := by
  refine ⟨(show 1 ≤ 1000 by decide), fun a ha => ⟨a, v, rfl, upd_same, T, n, fun dx hx ne => ⟨rfl, dx, [(f, v)], upd_same, ?_, ?_, ?_⟩⟩⟩
  · rw [upd_ne ne, upd_same]
  · rwa [upd_ne ne] at hx
  · rw [upd_ne ne] at hx
    rw [heap_made ha ne]
    exact q dx hx
theorem heap_made2 {H : Hp} {a d : Addr} {o1 o2 o3 o4 o : HO} (ha : H a = none) (n : d ≠ a) : upd (del (upd (upd (upd (upd H a o1) d o2) a o3) d o4) a) d o = upd H d o := by
  funext b
  by_cases hd : b = d
  · rw [hd, upd_same, upd_same]
  · rw [upd_ne hd, upd_ne hd]
    by_cases hb : b = a
    · rw [hb, del_same, ha]
    · rw [del_ne hb, upd_ne hd, upd_ne hb, upd_ne hd, upd_ne hb]
theorem raise2 {K : PySem.W.Frag} {C : Addr} {f g : Str} {H : Hp} {v u : V} {Q : XK} {E : XK} (T : OexC K C) (n : PySem.W.findIn K (.ref C) f = some none) (m : PySem.W.findIn K (.ref C) g = some none)
    (q : ∀ d, H d = none → Q (.ref C) (some d) (upd H d (.xd [(g, u), (f, v)]))) :
    [v, u].length ≤ 1000 ∧ ∀ a, H a = none → spI2 K C f g (.ref a :: ([v, u] ++ [])) (upd H a (exo a C none))
      (fun y H2 => y = .non ∧ ∃ (d : Addr) (fs : List (Str × V)), H2 a = some (exo a C (some d)) ∧ H2 d = some (exd d fs) ∧ H d = none ∧ Q (.ref C) (some d) (upd (del H2 a) d (.xd fs))) E := by
  refine ⟨(show 2 ≤ 1000 by decide), fun a ha => ⟨a, v, u, rfl, upd_same, T, n, m, fun dx hx ne => ⟨rfl, dx, [(g, u), (f, v)], ?_, upd_same, ?_, ?_⟩⟩⟩
  · rw [upd_ne (Ne.symm ne), upd_same]
  · rwa [upd_ne ne] at hx
  · rw [upd_ne ne] at hx
    rw [heap_made2 ha ne]
    exact q dx hx
/-! ### numbers and kinds of things -/
theorem cdw {i j : Int} (h : 0 < j) (b : j < 9223372036854775808) : CDivW i j :=
  wide_div (b := 63) h (by have e : (2 : Nat) ^ 63 = 9223372036854775808 := by decide
                           omega) (by decide) (by decide)
theorem cml {i j : Int} (h : -18446744073709551616 < i) (b : i < 18446744073709551616) : CMul i j := by
  have e : (2 : Int) ^ 64 = 18446744073709551616 := by decide
  exact .inl ⟨by omega, by omega⟩
theorem cmr {i j : Int} (h : -18446744073709551616 < j) (b : j < 18446744073709551616) : CMul i j := by
  have e : (2 : Int) ^ 64 = 18446744073709551616 := by decide
  exact .inr ⟨by omega, by omega⟩
/-- the things that a law hands in: None, bools, ints, texts, tuples, lists, dicts -/
def Plain (H : Hp) : V → Prop
  | .non => True
  | .bl _ => True
  | .int _ => True
  | .str _ => True
  | .ref a => (∃ xs, H a = some (.tup xs)) ∨ (∃ xs, H a = some (.lst xs)) ∨ ∃ kvs, H a = some (.dK kvs)
  | _ => False
def isI : V → Bool
  | .int _ => true
  | _ => false
def isB : V → Bool
  | .bl _ => true
  | _ => false
/-- a whole number from lo to hi -/
def whole (x : V) (lo hi : Int) : Bool := match x with
  | .int i => decide (lo ≤ i) && decide (i ≤ hi)
  | _ => false
theorem Plain.same {H H' : Hp} {x : V} (s : Same H H') (h : Plain H x) : Plain H' x := by
  cases x with
  | ref a =>
    rcases h with ⟨xs, h⟩ | ⟨xs, h⟩ | ⟨xs, h⟩
    · exact .inl ⟨xs, s _ _ h⟩
    · exact .inr (.inl ⟨xs, s _ _ h⟩)
    · exact .inr (.inr ⟨xs, s _ _ h⟩)
  | _ => exact h
theorem isi_int {K : PySem.W.Frag} {H : Hp} {x : V} {Q : VK} (h : Plain H x) (q : Q (.bl (isI x || isB x)) H) : rIsi K [x, .ty "int"] H Q := by
  cases x with
  | non => exact ⟨_, _, _, _, false, rfl, .ty _, .base .non, kit_ty (by decide +kernel), q⟩
  | bl b => exact ⟨_, _, _, _, true, rfl, .ty _, .base (.bl _), kit_ty (by decide +kernel), q⟩
  | int i => exact ⟨_, _, _, _, true, rfl, .ty _, .base (.int _), kit_ty (by decide +kernel), q⟩
  | str z => exact ⟨_, _, _, _, false, rfl, .ty _, .base (.str _), kit_ty (by decide +kernel), q⟩
  | ref a =>
    rcases h with ⟨xs, h⟩ | ⟨xs, h⟩ | ⟨xs, h⟩
    · exact ⟨_, _, _, _, false, rfl, .ty _, .base (.tup h), kit_ty (by decide +kernel), q⟩
    · exact ⟨_, _, _, _, false, rfl, .ty _, .base (.lst h), kit_ty (by decide +kernel), q⟩
    · exact ⟨_, _, _, _, false, rfl, .ty _, .base (.dK h), kit_ty (by decide +kernel), q⟩
  | byt _ => exact h.elim
  | flt _ => exact h.elim
  | ty _ => exact h.elim
theorem isi_bool {K : PySem.W.Frag} {H : Hp} {x : V} {Q : VK} (h : Plain H x) (q : Q (.bl (isB x)) H) : rIsi K [x, .ty "bool"] H Q := by
  cases x with
  | non => exact ⟨_, _, _, _, false, rfl, .ty _, .base .non, kit_ty (by decide +kernel), q⟩
  | bl b => exact ⟨_, _, _, _, true, rfl, .ty _, .base (.bl _), kit_ty (by decide +kernel), q⟩
  | int i => exact ⟨_, _, _, _, false, rfl, .ty _, .base (.int _), kit_ty (by decide +kernel), q⟩
  | str z => exact ⟨_, _, _, _, false, rfl, .ty _, .base (.str _), kit_ty (by decide +kernel), q⟩
  | ref a =>
    rcases h with ⟨xs, h⟩ | ⟨xs, h⟩ | ⟨xs, h⟩
    · exact ⟨_, _, _, _, false, rfl, .ty _, .base (.tup h), kit_ty (by decide +kernel), q⟩
    · exact ⟨_, _, _, _, false, rfl, .ty _, .base (.lst h), kit_ty (by decide +kernel), q⟩
    · exact ⟨_, _, _, _, false, rfl, .ty _, .base (.dK h), kit_ty (by decide +kernel), q⟩
  | byt _ => exact h.elim
  | flt _ => exact h.elim
  | ty _ => exact h.elim
/-- T // (m - 1) + 1, again and again -/
def room (p t : Int) : Int := t / (p - 1) + 1
def grow (p : Int) : Nat → Int → Int
  | 0, a => a
  | k + 1, a => grow p k a + room p (grow p k a)
theorem grow_le {p : Int} (hp : 2 ≤ p) : ∀ (k : Nat) {a : Int}, 0 ≤ a → 0 ≤ grow p k a ∧ grow p k a ≤ 2 ^ k * (a + 1) - 1
  | 0, a, h => ⟨h, by show a ≤ 2 ^ 0 * (a + 1) - 1; omega⟩
  | k + 1, a, h => by
    obtain ⟨h1, h2⟩ := grow_le hp k h
    have e : (2 : Int) ^ (k + 1) = 2 * 2 ^ k := by rw [Int.pow_succ, Int.mul_comm]
    have r0 : 0 ≤ grow p k a / (p - 1) := Int.ediv_nonneg h1 (by omega)
    have r1 : grow p k a / (p - 1) ≤ grow p k a := Int.ediv_le_self _ h1
    show 0 ≤ grow p k a + (grow p k a / (p - 1) + 1) ∧ grow p k a + (grow p k a / (p - 1) + 1) ≤ 2 ^ (k + 1) * (a + 1) - 1
    rw [e, Int.mul_assoc]
    omega
theorem whole_of {x : V} {lo hi : Int} (h : whole x lo hi = true) : ∃ i, x = .int i ∧ lo ≤ i ∧ i ≤ hi := by
  cases x with
  | int i =>
    have h' : (decide (lo ≤ i) && decide (i ≤ hi)) = true := h
    rw [Bool.and_eq_true, decide_eq_true_eq, decide_eq_true_eq] at h'
    exact ⟨i, rfl, h'.1, h'.2⟩
  | _ => exact absurd (show false = true from h) Bool.false_ne_true
theorem whole_int {i lo hi : Int} (h1 : lo ≤ i) (h2 : i ≤ hi) : whole (.int i) lo hi = true := by
  show (decide (lo ≤ i) && decide (i ≤ hi)) = true
  rw [decide_eq_true h1, decide_eq_true h2]
  rfl
theorem whole_no {i lo hi : Int} (h : i < lo ∨ hi < i) : whole (.int i) lo hi = false := by
  show (decide (lo ≤ i) && decide (i ≤ hi)) = false
  rcases h with h | h
  · rw [decide_eq_false (by omega : ¬ lo ≤ i)]
    rfl
  · rw [decide_eq_false (by omega : ¬ i ≤ hi), Bool.and_false]
/-- a def that checks a number up to m, then the people from 2 to 5, and then does R -/
def spTwo (cX : Addr) (m : Int) (cP : Addr) (R : Int → Int → VK → Hp → Prop) : Sp := fun vs H Q E => ∃ x y : V, vs = [x, y] ∧ Plain H x ∧ Plain H y ∧
  (whole x 0 m = false → ∀ d, H d = none → E (.ref cX) (some d) (upd H d (.xd [("most", .int m)]))) ∧ (whole x 0 m = true → whole y 2 5 = false → E (.ref cP) none H) ∧
  ∀ t p : Int, x = .int t → y = .int p → 0 ≤ t → t ≤ m → 2 ≤ p → p ≤ 5 → R t p Q H
theorem len_two {cX cP : Addr} {m : Int} {R : Int → Int → VK → Hp → Prop} {vs : List V} {H : Hp} {Q : VK} {E : XK} (h : spTwo cX m cP R vs H Q E) : vs.length = 2 := by
  obtain ⟨_, _, rfl, _⟩ := h; rfl
/-- the fewest steps that reach t -/
def Least (p t : Int) (n : Nat) : Prop := (∀ k, k < n → grow p k 0 < t) ∧ t ≤ grow p n 0
/-! ### for k, x in enumerate(xs) -/
theorem for_enum {K : PySem.W.Frag} {a : Addr} {xs : List V} {g : TG} {tb : TS} {D : Ends} {z0 : L2.St} {H : Hp} (Pv : Nat → L2.St → Hp → Prop) (h0 : Pv 0 z0 H) (hl : ∀ i z h, i ≤ xs.length → Pv i z h → SqL K h a xs)
    (hs : ∀ i x T z h, xs[i]? = some x → h T = none → Pv i z h → g (.ref T) z (upd h T (.tup [.int (i : Nat), x])) fun z2 h2 => tb { D with nx := Pv (i + 1), ct := Pv (i + 1), bk := D.nx } z2 h2) (hd : ∀ z h, Pv xs.length z h → D.nx z h) :
    ∃ W : Nat → Nat → L2.St → Hp → Prop, (∃ m, W 0 m z0 H) ∧ ∀ i m z h, W i m z h →
      ((Ite K a).stop i h ∧ D.nx z h) ∨ ((Ite K a).go i h ∧ ∃ N : L2.St → Hp → Prop, (∀ z' h', N z' h' → ∃ m', m' < m ∧ W (i + 1) m' z' h') ∧ ∀ x h', (Ite K a).yld i h x h' → g x z h' fun z2 h2 => tb { D with nx := N, ct := N, bk := D.nx } z2 h2) := by
  refine ⟨fun i m z h => m = xs.length - i ∧ i ≤ xs.length ∧ Pv i z h, ⟨xs.length, by simp, Nat.zero_le _, h0⟩, ?_⟩
  rintro i m z h ⟨rfl, hi, p⟩
  have q := hl i z h hi p
  by_cases hlt : i < xs.length
  · refine .inr ⟨⟨xs, xs[i], q, by simp [hlt]⟩, Pv (i + 1), fun z' h' p' => ⟨xs.length - (i + 1), by omega, rfl, hlt, p'⟩, fun v h' y => ?_⟩
    obtain ⟨T, x, rfl, hT, rfl, hx⟩ := y
    exact hs i x T z h (hx xs q) hT p
  · obtain rfl : i = xs.length := by omega
    exact .inl ⟨⟨xs, q, Nat.le_refl _⟩, hd z h p⟩
/-! ### the hand of a law: its list [cells, place, rest, total], all of them whole numbers from 0 -/
structure HandAt (H : Hp) (h q : Addr) : Prop where
  ex : ∃ (cs : List Int) (i r t : Int), H h = some (.lst [.ref q, .int i, .int r, .int t]) ∧ H q = some (.lst (cs.map V.int)) ∧ cs.length ≤ 63 ∧ (∀ c, c ∈ cs → 0 ≤ c) ∧ 0 ≤ i ∧ i ≤ cs.length ∧ 0 ≤ r ∧ 0 ≤ t ∧ t < 2147483629
/-- all that stood stands, but for what is at h -/
def But (h : Addr) (H H' : Hp) : Prop := ∀ b o, H b = some o → b ≠ h → H' b = some o
theorem But.refl (h : Addr) (H : Hp) : But h H H := fun _ _ e _ => e
theorem But.trans {h : Addr} {H1 H2 H3 : Hp} (a : But h H1 H2) (b : But h H2 H3) : But h H1 H3 := fun c o e n => b c o (a c o e n) n
theorem But.of {h : Addr} {H H' : Hp} (s : Same H H') : But h H H' := fun b o e _ => s b o e
theorem But.new {h p : Addr} {H : Hp} {o : HO} (hp : H p = none) : But h H (upd H p o) := fun b u e _ => by
  rw [upd_ne (ne_of_none e hp)]; exact e
theorem But.upd {h : Addr} {H : Hp} {o : HO} : But h H (L2.upd H h o) := fun b u e n => by
  rw [upd_ne n]; exact e
theorem But.then {h : Addr} {H H' : Hp} {o : HO} (a : But h H H') : But h H (L2.upd H' h o) := a.trans But.upd
theorem Same.new {p : Addr} {H : Hp} {o : HO} (hp : H p = none) : Same H (upd H p o) := fun b u e => by
  rw [upd_ne (ne_of_none e hp)]; exact e
theorem HandAt.ne {H : Hp} {h q : Addr} (x : HandAt H h q) : h ≠ q := by
  obtain ⟨cs, i, r, t, h1, h2, _⟩ := x.ex
  intro e
  rw [e, h2] at h1
  cases cs with
  | nil => cases h1
  | cons c cs => cases h1
theorem HandAt.same {H H' : Hp} {h q : Addr} (x : HandAt H h q) (s : Same H H') : HandAt H' h q := by
  obtain ⟨cs, i, r, t, h1, h2, m⟩ := x.ex
  exact ⟨cs, i, r, t, s _ _ h1, s _ _ h2, m⟩
theorem HandAt.has {H : Hp} {h q : Addr} (x : HandAt H h q) : ∃ o, H h = some o := by
  obtain ⟨cs, i, r, t, h1, _⟩ := x.ex
  exact ⟨_, h1⟩
theorem HandAt.off {H : Hp} {h q p : Addr} (x : HandAt H h q) (hp : H p = none) : p ≠ h := by
  obtain ⟨o, e⟩ := x.has
  exact fun z => by rw [z, e] at hp; cases hp
/-- a draw's promise: some number below many, the hand as a hand -/
def spDraw : Sp := fun vs H Q _ => ∃ (h q : Addr) (m : Int), vs = [.ref h, .int m] ∧ HandAt H h q ∧ 0 < m ∧ m < 9223372036854775808 ∧
  ∀ d H', 0 ≤ d → d < m → HandAt H' h q → But h H H' → Q (.int d) H'
def spHand (K : PySem.W.Frag) : Sp := fun vs H Q _ => ∃ (a : Addr) (ns : List Int), vs = [.ref a] ∧ SqL K H a (ns.map V.int) ∧ ns.length ≤ 63 ∧
  ∀ h q H', Same H H' → HandAt H' h q → Q (.ref h) H'
def spMix : Sp := fun vs H Q _ => ∃ n t : Int, vs = [.int n, .int t] ∧ 0 ≤ n ∧ n < 2147483648 ∧ 0 ≤ t ∧ t ≤ 1000 ∧ ∀ r, 0 ≤ r → Q (.int r) H
theorem nat_map {ns : List Int} {i : Nat} {y : V} (h : (ns.map V.int)[i]? = some y) : ∃ c, ns[i]? = some c ∧ y = .int c := by
  rw [List.getElem?_map] at h
  cases e : ns[i]? with
  | none => rw [e] at h; cases h
  | some c => rw [e] at h; exact ⟨c, rfl, (Option.some.inj h).symm⟩
theorem two_ok {cX cP : Addr} {m : Int} {R : Int → Int → VK → Hp → Prop} {t p : Int} {H : Hp} {Q : VK} {E : XK} (t0 : 0 ≤ t) (t1 : t ≤ m) (p0 : 2 ≤ p) (p1 : p ≤ 5) (r : R t p Q H) : spTwo cX m cP R [.int t, .int p] H Q E :=
  ⟨_, _, rfl, True.intro, True.intro, fun a => absurd (a.symm.trans (whole_int t0 t1)) (by decide), fun _ b => absurd (b.symm.trans (whole_int p0 p1)) (by decide), fun t' p' e1 e2 _ _ _ _ => by
    cases e1
    cases e2
    exact r⟩
theorem isi_tuple {K : PySem.W.Frag} {H : Hp} {a : Addr} {xs : List V} {Q : VK} (h : H a = some (.tup xs)) (q : Q (.bl true) H) : rIsi K [.ref a, .ty "tuple"] H Q :=
  ⟨_, _, _, _, true, rfl, .ty _, .base (.tup h), kit_ty (by decide +kernel), q⟩
theorem pow2_le {k n : Nat} (h : k ≤ n) : (2 : Int) ^ k ≤ 2 ^ n := by
  have e : (2 : Nat) ^ k ≤ 2 ^ n := Nat.pow_le_pow_right (by decide) h
  have c : ∀ j : Nat, (2 : Int) ^ j = ((2 ^ j : Nat) : Int) := fun j => by
    induction j with
    | zero => rfl
    | succ j ih => rw [Int.pow_succ, ih, Nat.pow_succ]; omega
  rw [c, c]
  omega
/-- two tuples (text, number) with the same data -/
theorem ne_pair {K : PySem.W.Frag} {H : Hp} {a b : Addr} {x : Str} {n : Int} {Q : VK} (ha : H a = some (.tup [.str x, .int n])) (hb : H b = some (.tup [.str x, .int n])) (sx : SeqAt.shaped (.tuple [.str x, .int n]) = true) (q : Q (.bl false) H) : rNeD K (.ref a) (.ref b) H Q := by
  refine ⟨.tuple [.str x, .int n], .tuple [.str x, .int n], .tup (SqT.of ha) (.cons (.str _) (.cons (.int _) .nil)), .tup (SqT.of hb) (.cons (.str _) (.cons (.int _) .nil)), sx, sx, ?_⟩
  have e : PyData.eqv (.tuple [.str x, .int n]) (.tuple [.str x, .int n]) = true := by simp [PyData.eqv, PyData.eqvAll]
  rw [e]
  exact q
theorem Least.one {p t : Int} {n m : Nat} (a : Least p t n) (b : Least p t m) : n = m := by
  rcases Nat.lt_trichotomy n m with h | h | h
  · have z := b.1 n h
    have y := a.2
    omega
  · exact h
  · have z := a.1 m h
    have y := b.2
    omega
/-- what «except» asks of two classes -/
theorem exm_mk {K : PySem.W.Frag} {S R : Addr} {b : Bool} (h1 : PySem.W.subIn K (.ref S) (.type "BaseException") = some true) (h2 : PySem.W.isClsIn K S = true) (h3 : PySem.W.typeIn K (.ref S) = some (.type "type")) (h4 : PySem.W.subIn K (.ref R) (.ref S) = some b) :
    PySem.W.exmOne K (.ref R) (.ref S) = some b := by
  have e1 : (PySem.W.subIn K (.ref S) (.type "BaseException") == some true) = true := by rw [h1]; rfl
  have h2' : (PySem.W.clsIn K S).isSome = true := h2
  have e2 : ((PySem.W.clsIn K S).isSome && PySem.W.typeIn K (.ref S) == some (.type "type")) = true := by rw [h2', h3]; rfl
  show (if _ then (if _ then _ else none) else none) = some b
  rw [if_pos e1, if_pos e2]
  exact h4
end Gen
set_option Elab.async false
set_option linter.all false
set_option maxRecDepth 100000
set_option maxHeartbeats 4000000
/-! ## More rules: == and != of own instances, sorted and sum of tuples, enumerate of tuples -/
namespace Gen
open PySem PySem.Spec PyProof.Rows L2
section
variable {X : Cx} {pins : List (Addr × Obj)} {z : L2.St} {H : Hp} {s : Shared} {n : Nat} {f C : Addr} {fd : FuncData} {ps : List Str} {sp : Sp} {vs : List V} {us : List Value} {Q : VK}
theorem call_below {A : Around} (F : FnOk X.prog X.w X.K X.mg X.base CX0 n f fd ps sp) (hb : L2.Binds X.K fd ps []) (room : Room n A) (efr : A.frames = X.A.frames) (I : Inv X pins z H s) (r : Vals vs us) (q : sp vs H Q E0) :
    wpAny (model X.prog X.w) A (call (.ref f) us) (EP X pins z Q) X.xe s := by
  have e0 : Env0 X.prog X.w X.K X.mg X.base A X.stack s H := by
    have e := I.env0
    exact ⟨by rw [efr]; exact e.frames, e.mod, e.bs, e.bsz, e.funs, e.frf, e.hok, e.bare⟩
  have hl := F.len _ _ _ _ q
  have b := hb s us I.kIn (by rw [List.append_nil, ← r.length]; exact hl)
  rw [List.append_nil] at b
  refine wpAny_call (codeAny_mono (F.run A X.stack s H ⟨us, []⟩ us vs Q E0 room e0 b r q) fun o s' hq => ?_)
  cases o with
  | error e => exact False.elim hq
  | ok fl =>
    cases fl with
    | ret u => exact I.after hq
    | _ => exact False.elim hq
/-- == (neg: !=) of an instance of the class at C by its own __eq__, whatever stands on the right -/
def rOwnEq (K : PySem.W.Frag) (C : Addr) (sp : Sp) (neg : Bool) : R2 := fun x y H Q => ∃ a dx fs t, x = .ref a ∧ H a = some (.ins C dx fs) ∧ TyX K H y t ∧ PySem.W.notFirst K C t = true ∧
  sp [x, y] H (fun r H' => ∃ b : Bool, r = .bl b ∧ Q (.bl (if neg = true then !b else b)) H') E0
theorem op_eqI (F : FnOk X.prog X.w X.K X.mg X.base CX0 n f fd ps sp) (hb : L2.Binds X.K fd ps []) (hs : PySem.W.findIn X.K (.ref C) "__eq__" = some (some (.ref f))) (hf : PySem.W.isFn X.K (.ref f) = true) (hr : Room n X.A) :
    OpR X (compareOp .Eq) (rOwnEq X.K C sp false) := by
  intro pins s z H x y v u Q I rx ry h
  obtain ⟨a, dx, fs, t, rfl, ha, ty, nf, q⟩ := h
  cases (show v = Value.ref a from rx)
  obtain ⟨mA, J, _⟩ := ins_get I.hok ha
  obtain ⟨od, J, _⟩ := J.look
  obtain ⟨m, hF⟩ := I.fr
  obtain ⟨P, Z, p, _⟩ := kit_of I ry ty
  show wpAny _ X.A (richCompare .Eq (.ref a) u) _ _ s
  refine PySem.W.cmp_K (op := .Eq) (tb := t) hr.units0 hF I.ok.mod.kin J (Z.ty _ _ I.kIn p) nf hs hf ?_
  refine wpAny_mono (call_below F hb hr rfl I (show Vals [V.ref a, y] [Value.ref a, u] from .cons rfl (.cons ry .nil)) q) (fun w s' e => ?_) fun _ _ e => e
  obtain ⟨r, H', I', rr, b, rfl, qz⟩ := e
  cases (show w = Value.bool b from rr)
  exact ⟨.bl b, H', I', rfl, qz⟩
end
section
variable {M : Model} {A : Around} {E : Value → Shared → Prop} {s : Shared} {K : PySem.W.Frag} {x C : Addr} {ox : Obj} {od : Option Obj} {name : Str} {id : String}
theorem ifBound_B {args : List Value} {Q : Option Value → Shared → Prop} (Xk : K.In s.heap) (I : PySem.W.InstAt s.heap x ox C od) (hs : PySem.W.findIn K (.ref C) name = some (some (.builtin id)))
    (bd : ∀ self, bindSpecial (.builtin id) self = pure (.builtin id, [self])) (h : wpAny M A (call (.builtin id) (.ref x :: args)) (fun v => Q (some v)) E s) : wpAny M A (callSpecialIfBound? (.ref x) name args) Q E s := by
  simp only [callSpecialIfBound?, bindSpecialIfBound?]
  refine wpAny_holding (wpAny_bind (wpAny_bind (wpAny_bind (I.type.here ((PySem.W.looks_findIn Xk hs).here ?_)))))
  simp only [bd]
  refine wpAny_bind (wpAny_askSetting (wpAny_ite ?_))
  have done : wpAny M A (call (.builtin id) ([.ref x] ++ args) >>= fun v => pure (some v)) Q E s := wpAny_bind (wpAny_mono h (fun v s' q => wpAny_pure q) fun _ _ q => q)
  split
  · exact wpAny_bind (wpAny_pure (wpAny_pure done))
  · exact wpAny_tryCatch (wpAny_bind (wpAny_pure (wpAny_pure done)))
end
section
variable {prog : Program} {w : World} {A : Around} {E : Value → Shared → Prop} {s : Shared} {K : PySem.W.Frag} {x C f : Addr} {ox : Obj} {od : Option Obj} {u tb : Value}
theorem ne_below {Q : Value → Shared → Prop} (hu : A.units + 1 < cLine) (Xk : K.In s.heap) (I : PySem.W.InstAt s.heap x ox C od) (hb : PySem.W.Looks (model prog w) s.heap (typeOf u) tb) (hn : PySem.W.notFirst K C tb = true)
    (hs : PySem.W.findIn K (.ref C) "__ne__" = some (some (.builtin "object.__ne__"))) (he : PySem.W.findIn K (.ref C) "__eq__" = some (some (.ref f))) (hf : PySem.W.isFn K (.ref f) = true) (hm : PySem.W.mroIn K C (.type "object") = some true)
    (h : wpAny (model prog w) A.in1 (call (.ref f) [.ref x, u]) (fun v s' => ∃ b, v = .bool b ∧ Q (.bool (!b)) s') E s) : wpAny (model prog w) A (richCompare .NotEq (.ref x) u) Q E s := by
  have sub : PySem.W.Looks (model prog w) s.heap (isInstance (.ref x) (.type "object")) true := I.type.andThen (PySem.W.looks_mroIn Xk hm)
  have inner : wpAny (model prog w) A.in1 (Builtin.«object.__ne__» ⟨[.ref x, u], []⟩) (fun fin s' => ∃ v, fin = .done (.ret v) ∧ v ≠ .notImplemented ∧ Q v s') E s := by
    unfold Builtin.«object.__ne__»
    repeat (first
      | with_reducible refine wpAny_cRoomFor (show A.in1.units < cLine from hu) ?_
      | (refine wpAny_bind (m := callSpecialIfBound? (.ref x) (Str.ofString "__eq__") [u])
          (PySem.W.ifBound_K Xk I he hf (wpAny_mono h (fun r s' hr => by
            obtain ⟨b, rfl, hq⟩ := hr
            repeat (first | exact ⟨_, rfl, (fun e => nomatch e), hq⟩ | exact wpAny_pure ⟨_, rfl, (fun e => nomatch e), hq⟩ | (refine wpAny_bind (m := truthy (.bool _)) (wpAny_truthy_bool ?_)) | wp_step)) fun _ _ e => e)))
      | wp_step)
  have one : wpAny (model prog w) A (tryCompare (.ref x) (cmpInfo .NotEq).2.1 u) (fun r s' => ∃ v, r = some v ∧ Q v s') E s := by
    unfold tryCompare
    refine wpAny_bind (ifBound_B Xk I hs F.slot_object_ne.bind (wpAny_call (codeAny_call_builtin F.slot_object_ne.plain F.cmpEntry_ne
      (@PySem.W.check_slot (model prog w) _ _ s "object.__ne__" "object" "__ne__" (.ref x) [u] [] _ F.cmpKind_ne F.cmpSplit_ne sub (F.cmpArgs_ne _ _) (wpAny_mono inner (fun fin s' q => ?_) fun _ _ q => q)))))
    obtain ⟨v, rfl, nv, q⟩ := q
    cases v <;> first | exact absurd rfl nv | exact wpAny_pure ⟨_, rfl, q⟩ | exact ⟨_, rfl, wpAny_pure ⟨_, rfl, q⟩⟩
  unfold richCompare
  simp only [oneThing_ref]
  refine wpAny_holding (wpAny_bind (wpAny_cRoomFor (Nat.lt_of_succ_lt hu) ?_))
  refine wpAny_bind (I.type.here (wpAny_bind (hb.here ?_)))
  split
  · rename_i q
    have e : PySem.W.subIn K tb (.ref C) = some false := by
      rcases Bool.or_eq_true_iff.mp hn with e | e
      · rw [beq_iff_eq.mp e] at q
        simp at q
      · exact beq_iff_eq.mp e
    refine wpAny_bind ((PySem.W.looks_subIn Xk e).here ?_)
    simp only [Bool.false_eq_true, if_false]
    refine wpAny_bind (wpAny_mono one (fun r s' y => ?_) fun _ _ e => e)
    obtain ⟨v, rfl, hq⟩ := y
    exact wpAny_pure hq
  · refine wpAny_bind (wpAny_pure ?_)
    simp only [Bool.false_eq_true, if_false]
    refine wpAny_bind (wpAny_mono one (fun r s' y => ?_) fun _ _ e => e)
    obtain ⟨v, rfl, hq⟩ := y
    exact wpAny_pure hq
end
section
variable {X : Cx} {n : Nat} {f C : Addr} {fd : FuncData} {ps : List Str} {sp : Sp}
theorem op_neI (F : FnOk X.prog X.w X.K X.mg X.base CX0 n f fd ps sp) (hb : L2.Binds X.K fd ps []) (hs : PySem.W.findIn X.K (.ref C) "__ne__" = some (some (.builtin "object.__ne__"))) (he : PySem.W.findIn X.K (.ref C) "__eq__" = some (some (.ref f)))
    (hf : PySem.W.isFn X.K (.ref f) = true) (hm : PySem.W.mroIn X.K C (.type "object") = some true) (hr : Room (n + 1) X.A) : OpR X (compareOp .NotEq) (rOwnEq X.K C sp true) := by
  intro pins s z H x y v u Q I rx ry h
  obtain ⟨a, dx, fs, t, rfl, ha, ty, nf, q⟩ := h
  cases (show v = Value.ref a from rx)
  obtain ⟨mA, J, _⟩ := ins_get I.hok ha
  obtain ⟨od, J, _⟩ := J.look
  obtain ⟨P, Z, p, _⟩ := kit_of I ry ty
  show wpAny _ X.A (richCompare .NotEq (.ref a) u) _ _ s
  refine ne_below (by have e := hr.un; omega) I.kIn J (Z.ty _ _ I.kIn p) nf hs he hf hm ?_
  refine wpAny_mono (call_below F hb hr.in1 rfl I (show Vals [V.ref a, y] [Value.ref a, u] from .cons rfl (.cons ry .nil)) q) (fun w s' e => ?_) fun _ _ e => e
  obtain ⟨r, H', I', rr, b, rfl, qz⟩ := e
  cases (show w = Value.bool b from rr)
  exact ⟨b, rfl, .bl (!b), H', I', rfl, qz⟩
end
/-! ### sorted(t), sum(t) -/
section
variable {prog : Program} {w : World} {A : Around} {E : Value → Shared → Prop} {s : Shared} {t : Addr}
theorem sorted_tup {vs : List Value} {ns : List Int} {Q : Value → Shared → Prop} (ht : s.heap.IsTuple t vs.toArray) (hi : IntsAre vs ns) (hz : vs.length ≤ sizeLine)
    (h : ∀ (h1 h' : Heap) (out : Array Value) (ns' : List Int) (e : Nat), (∀ b o, s.heap.get? b = some o → h1.get? b = some o) → (∀ b o, h1.get? b = some o → h'.get? b = some o) → h'.get? h1.objs.size = some (seqObj "list" out e) → IntsAre out.toList ns' → ns'.Perm ns → ns'.Pairwise (· ≤ ·) → Q (.ref h1.objs.size) { s with heap := h' }) :
    wpAny (model prog w) A (call (.builtin "sorted") [.ref t]) Q E s := by
  obtain ⟨o, ho, hc, n, hd⟩ := ht
  refine Calls.call_function_entry kind_sorted plain_sorted entry_sorted (args_sorted1 _) ?_
  unfold Builtin.«sorted»
  refine wpAny_bind (m := checkCount "sorted" 1 1 _) (wpAny_pure ?_)
  refine wpAny_bind (wpAny_collect_seq t (.inr rfl) ho hc hd (fun h1 kp => ?_) (by simpa using hz))
  have e1 : vs.toArray.toList = vs := by simp
  rw [e1]
  refine wpAny_bind (wpAny_newList ?_)
  have at0 : (h1.push (seqObj "list" vs.toArray 0)).get? h1.objs.size = some (seqObj "list" vs.toArray 0) := Heap.get?_push_size _ rfl
  show wpAny _ _ _ _ _ { s with heap := h1.push (seqObj "list" vs.toArray 0) }
  refine wpAny_bind (wpAny_holding (wpAny_call_entry slot_list_sort ⟨_, at0, rfl⟩ entry_list_sort (list_sort_treeAny at0 hi hz fun out ns' a1 a2 a3 => ⟨_, rfl, ?_⟩) (args_list_sort _)))
  obtain ⟨e, he⟩ := sortedHeap_at (out := out) at0
  exact wpAny_pure ⟨_, rfl, h h1 _ out ns' e kp (fun b u hb => by
    have lt := Heap.lt_size hb
    rw [sortedHeap_old (Nat.ne_of_lt lt) (by rw [size_push']; exact Nat.lt_succ_of_lt lt)]
    exact Heap.get?_push_of_some _ hb) he a1 a2 a3⟩
theorem sum_tup {its : List Value} {ns : List Int} {Q : Value → Shared → Prop} (hh : A.handled = none) (ht : s.heap.IsTuple t its.toArray) (hi : IntsAre its ns)
    (h : ∀ h' tk t', (∀ b o, s.heap.get? b = some o → h'.get? b = some o) → Q (.int ns.sum t') { s with heap := h', toks := tk }) : wpAny (model prog w) A (call (.builtin "sum") [.ref t]) Q E s := by
  obtain ⟨xs, e⟩ := hi.allInts.items
  have hn : numsOf (intItems xs).toList = ns := by rw [← e]; exact hi.numsOf
  rw [nums_intItems] at hn
  rw [e] at ht
  have lt : t < s.heap.objs.size := by obtain ⟨_, q, _⟩ := ht; exact Heap.lt_size q
  refine call_sum_walkG (wpAny_pyIter_tuple ht ?_)
  refine ⟨_, _, _, _, _, _, numAt xs, rfl, Walks.tuple (A := A.in1) hh _ t (Nat.ne_of_lt lt) (intItems xs), ⟨⟨_, Heap.get?_push_size _ rfl, rfl, rfl⟩, ht.push _⟩, fun b hb => ?_, (fun _ _ => intItems_at), fun h' tk t' hk => ?_⟩
  · show b < (s.heap.push _).objs.size
    rw [Heap.size_push]
    rcases List.mem_cons.mp hb with rfl | hb
    · exact Nat.lt_succ_self _
    · rw [List.mem_singleton.mp hb]
      exact Nat.lt_succ_of_lt lt
  · have old : ∀ b o, s.heap.get? b = some o → h'.get? b = some o := fun b o q => by
      refine hk b o (fun hm => ?_) (Heap.get?_push_of_some _ q)
      rw [List.mem_singleton.mp hm] at q
      exact absurd (Heap.lt_size q) (Nat.lt_irrefl _)
    have r := h h' tk t' old
    have e2 : (intItems xs).size = xs.size := by simp [intItems]
    rw [e2, preSum_eq, List.take_of_length_le (by simp), hn]
    exact r
end
/-- a list or a tuple -/
def SqE (K : PySem.W.Frag) (H : Hp) (a : Addr) (xs : List V) : Prop := SqL K H a xs ∨ SqT K H a xs
theorem SqE.same {K : PySem.W.Frag} {H H' : Hp} {a : Addr} {xs : List V} (h : SqE K H a xs) (s : Same H H') : SqE K H' a xs := by
  rcases h with h | (h | ⟨o, h⟩) | h
  · exact .inl (s.seq h)
  · exact .inr (.inl (.inl (s _ _ h)))
  · exact .inr (.inl (.inr ⟨o, s _ _ h⟩))
  · exact .inr (.inr h)
section
variable {X : Cx}
/-- sorted of ints, a list or a tuple, of any length -/
def rSortedE (K : PySem.W.Frag) : List V → Hp → VK → Prop := fun vs H Q => ∃ (a : Addr) (ns : List Int), vs = [V.ref a] ∧ SqE K H a (ns.map V.int) ∧
  ∀ (ns' : List Int) (p : Addr), ns'.Perm ns → ns'.Pairwise (· ≤ ·) → H p = none → Q (.ref p) (upd H p (.lst (ns'.map V.int)))
theorem cr_sortedE : CallR X (.builtin "sorted") (rSortedE X.K) := by
  intro pins s z H vs us Q I r h
  obtain ⟨a, ns, rfl, hs, q⟩ := h
  rw [Vals.ref1 r]
  rcases hs with hs | hs
  · obtain ⟨its, rv, hl, hz⟩ := I.list hs
    have hi := rv.ints
    have ln := rv.length
    refine PyProof.Rows.sorted_intsAny hl.isList hi (by omega) fun out ns' h1 h2 h3 => ?_
    obtain ⟨ep, he⟩ := PyProof.Rows.sortedAll_at s.heap its out
    have hlen : (ns'.map V.int).length ≤ sizeLine := by rw [List.length_map, h2.length_eq]; rw [List.length_map] at hz; exact hz
    exact ⟨.ref _, upd H (s.heap.objs.size + 1) (.lst (ns'.map V.int)), I.laid (t' := s.toks) (fun _ _ => PyProof.Rows.sortedAll_old) (Nat.le_succ _) ⟨hlen, out.toList, ep, vals_of_ints h1, he⟩, rfl, q ns' _ h2 h3 (I.hok.fresh (Nat.le_succ _))⟩
  · obtain ⟨its, rv, hl, hz⟩ := I.tuple hs
    have hi := rv.ints
    have ln := rv.length
    refine sorted_tup (show s.heap.IsTuple a its.toArray from hl) hi (by omega) fun h1 h' out ns' e k1 k2 at_ i1 i2 i3 => ?_
    have hlen : (ns'.map V.int).length ≤ sizeLine := by rw [List.length_map, i2.length_eq]; rw [List.length_map] at hz; exact hz
    have I1 : Inv X pins z H { s with heap := h1 } := I.kept (t' := s.toks) k1
    exact ⟨.ref _, upd H h1.objs.size (.lst (ns'.map V.int)), I1.laid (t' := s.toks) k2 (Nat.le_refl _) ⟨hlen, out.toList, e, vals_of_ints i1, at_⟩, rfl, q ns' _ i2 i3 (I1.hok.fresh (Nat.le_refl _))⟩
def rSumE (K : PySem.W.Frag) : List V → Hp → VK → Prop := fun vs H Q => ∃ (a : Addr) (ns : List Int), vs = [V.ref a] ∧ SqE K H a (ns.map V.int) ∧ Q (.int ns.sum) H
theorem cr_sumE (hc : X.calm = true) : CallR X (.builtin "sum") (rSumE X.K) := by
  intro pins s z H vs us Q I r h
  obtain ⟨a, ns, rfl, hs, q⟩ := h
  rcases hs with hs | hs
  · exact cr_sum hc pins s z H _ us Q I r ⟨a, ns, rfl, hs, q⟩
  · obtain ⟨its, rv, hl, _⟩ := I.tuple hs
    rw [Vals.ref1 r]
    exact sum_tup (I.ok.hd hc) (show s.heap.IsTuple a its.toArray from hl) rv.ints fun h' tk t' hk => ⟨.int _, H, I.kept hk, ⟨_, rfl⟩, q⟩
end
end Gen
namespace Gen
open PySem PySem.Spec PyProof.Rows L2
/-- an own class as the top has written it -/
structure Own (K : PySem.W.Frag) (mg : Str → Option Value) (x : Str) (C : Addr) : Prop where
  gC : mg x = some (.ref C)
  cl : Cls K C
  mkI : PySem.W.makesIn K C = true
  kp : PySem.W.keepIn K (.ref C) = true
  ha : PySem.W.findIn K (.ref C) "__class__" = some (some (.builtin "object.__class__"))
  hn : PySem.W.specialIn K (.builtin "object.__class__") "__get__" = some (some (.builtin "getset_descriptor.__get__"))
  ht : PySem.W.takesIn K (.builtin "object.__class__") = some true
  hm : PySem.W.mroIn K C (.type "object") = some true
  ci : PySem.W.isClsIn K C = true
  ct : PySem.W.typeIn K (.ref C) = some (.type "type")
  ne : PySem.W.findIn K (.ref C) "__ne__" = some (some (.builtin "object.__ne__"))
def OwnI (K : PySem.W.Frag) (qual : Str) (st : Stmt) (ps : List Str) (C : Addr) : Prop := ∃ f fd, Fun K "__init__" qual st f fd ∧ Binds K fd ps [] ∧ Mk K C f
def OwnE (K : PySem.W.Frag) (qual : Str) (st : Stmt) (ps : List Str) (C : Addr) : Prop :=
  ∃ f fd, Fun K "__eq__" qual st f fd ∧ Binds K fd ps [] ∧ PySem.W.findIn K (.ref C) "__eq__" = some (some (.ref f)) ∧ PySem.W.isFn K (.ref f) = true
section
variable {K : PySem.W.Frag} {mg : Str → Option Value} {x : Str} {C : Addr} {H : Hp}
theorem Own.ty (o : Own K mg x C) {a dx : Addr} {fs : List (Str × V)} (h : H a = some (.ins C dx fs)) : TyX K H (.ref a) (.ref C) := .base (.ins h o.cl o.ha o.hn o.ht o.hm)
theorem nf_self : PySem.W.notFirst K C (.ref C) = true := by
  unfold PySem.W.notFirst
  rw [show (Value.ref C == Value.ref C) = true from beq_self_eq_true _]
  rfl
theorem nf_tup : PySem.W.notFirst K C (.type "tuple") = true := rfl
theorem nf_non : PySem.W.notFirst K C (.type "NoneType") = true := rfl
theorem Own.kit_self (o : Own K mg x C) : PySem.W.kitOne K (.ref C) (.ref C) = some true := by
  unfold PySem.W.kitOne
  rw [if_pos (beq_self_eq_true _)]
theorem Own.kit_ty (o : Own K mg x C) {T : String} (h : PySem.W.subIn K (.type T) (.ref C) = some false) : PySem.W.kitOne K (.type T) (.ref C) = some false := by
  have e : ((PySem.W.clsIn K C).isSome && PySem.W.typeIn K (.ref C) == some (.type "type")) = true := by
    have a : (PySem.W.clsIn K C).isSome = true := o.ci
    rw [a, o.ct]
    rfl
  show (if _ then _ else (if _ then _ else none)) = some false
  rw [if_neg (fun z => by cases z), if_pos e]
  exact h
theorem sub_tup : PySem.W.subIn K (.type "tuple") (.ref C) = some false := rfl
theorem sub_non : PySem.W.subIn K (.type "NoneType") (.ref C) = some false := rfl
/-- isinstance(x, C) of an instance, a tuple, None -/
theorem isi_self (o : Own K mg x C) {a dx : Addr} {fs : List (Str × V)} {Q : VK} (h : H a = some (.ins C dx fs)) (q : Q (.bl true) H) : rIsi K [.ref a, .ref C] H Q :=
  ⟨_, _, _, _, true, rfl, .own _, o.ty h, o.kit_self, q⟩
theorem isi_tup_own (o : Own K mg x C) {a : Addr} {xs : List V} {Q : VK} (h : H a = some (.tup xs)) (q : Q (.bl false) H) : rIsi K [.ref a, .ref C] H Q :=
  ⟨_, _, _, _, false, rfl, .own _, .base (.tup h), o.kit_ty sub_tup, q⟩
theorem isi_non_own (o : Own K mg x C) {Q : VK} (q : Q (.bl false) H) : rIsi K [.non, .ref C] H Q :=
  ⟨_, _, _, _, false, rfl, .own _, .base .non, o.kit_ty sub_non, q⟩
/-- how an instance with two attributes is made -/
theorem made2 {f g : Str} {C a dx : Addr} {x y : V} {H : Hp} (ha : H a = none) (hd : H dx = none) (n : dx ≠ a) : Same H (upd (upd (upd H dx (.own a)) a (.ins C dx [])) a (.ins C dx [(f, x), (g, y)])) := fun b o e => by
  rw [upd_ne (ne_of_none e ha), upd_ne (ne_of_none e ha), upd_ne (ne_of_none e hd)]
  exact e
theorem upd_at {a : Addr} {u : HO} : upd H a u a = some u := upd_same
end
end Gen
set_option Elab.async false
set_option linter.all false
set_option maxRecDepth 100000
set_option maxHeartbeats 4000000

/-! ### coins that serve, greatest first -/
namespace Gen
open PySem PySem.Spec PyProof.Rows L2
section
variable {X : Cx} {n : Nat} {f C : Addr} {fd : FuncData} {ps : List Str} {sp : Sp}
/-- the same, K named (within a comprehension) -/
theorem op_eqK {K : PySem.W.Frag} (hK : X.K = K) (F : FnOk X.prog X.w X.K X.mg X.base CX0 n f fd ps sp) (hb : L2.Binds X.K fd ps []) (hs : PySem.W.findIn X.K (.ref C) "__eq__" = some (some (.ref f))) (hf : PySem.W.isFn X.K (.ref f) = true) (hr : Room n X.A) :
    OpR X (compareOp .Eq) (rOwnEq K C sp false) := hK ▸ op_eqI F hb hs hf hr
theorem op_neK {K : PySem.W.Frag} (hK : X.K = K) (F : FnOk X.prog X.w X.K X.mg X.base CX0 n f fd ps sp) (hb : L2.Binds X.K fd ps []) (hs : PySem.W.findIn X.K (.ref C) "__ne__" = some (some (.builtin "object.__ne__"))) (he : PySem.W.findIn X.K (.ref C) "__eq__" = some (some (.ref f)))
    (hf : PySem.W.isFn X.K (.ref f) = true) (hm : PySem.W.mroIn X.K C (.type "object") = some true) (hr : Room (n + 1) X.A) : OpR X (compareOp .NotEq) (rOwnEq K C sp true) := hK ▸ op_neI F hb hs he hf hm hr
end
def Srv (p : Int) : Int → List Int → Prop
  | _, [] => True
  | r, c :: cs => c ≤ room p r ∧ Srv p (r + c) cs
def insI (c : Int) : List Int → List Int
  | [] => [c]
  | d :: ds => if c ≤ d then c :: d :: ds else d :: insI c ds
theorem insI_perm (c : Int) : ∀ l : List Int, (insI c l).Perm (c :: l)
  | [] => .refl _
  | d :: ds => by
    unfold insI
    split
    · exact .refl _
    · exact ((insI_perm c ds).cons d).trans (List.Perm.swap c d ds)
theorem insI_mem {c x : Int} {l : List Int} (h : x ∈ insI c l) : x = c ∨ x ∈ l := List.mem_cons.mp ((insI_perm c l).subset h)
theorem insI_sorted {c : Int} : ∀ {l : List Int}, l.Pairwise (· ≤ ·) → (insI c l).Pairwise (· ≤ ·)
  | [], _ => List.pairwise_cons.mpr ⟨fun _ h => absurd h List.not_mem_nil, List.Pairwise.nil⟩
  | d :: ds, h => by
    obtain ⟨h1, h2⟩ := List.pairwise_cons.mp h
    unfold insI
    split
    · rename_i e
      refine List.pairwise_cons.mpr ⟨fun x hx => ?_, h⟩
      rcases List.mem_cons.mp hx with rfl | hx
      · exact e
      · exact Int.le_trans e (h1 x hx)
    · rename_i e
      refine List.pairwise_cons.mpr ⟨fun x hx => ?_, insI_sorted h2⟩
      rcases insI_mem hx with rfl | hx
      · omega
      · exact h1 x hx
theorem room_mono {p r s : Int} (hp : 2 ≤ p) (h : r ≤ s) : room p r ≤ room p s := by
  unfold room
  have := Int.ediv_le_ediv (c := p - 1) (by omega) h
  omega
theorem Srv.mono {p : Int} (hp : 2 ≤ p) : ∀ {l : List Int} {r s : Int}, r ≤ s → Srv p r l → Srv p s l
  | [], _, _, _, _ => True.intro
  | c :: cs, r, s, h, ⟨h1, h2⟩ => ⟨Int.le_trans h1 (room_mono hp h), Srv.mono hp (by omega) h2⟩
theorem Srv.ins {p c : Int} (hp : 2 ≤ p) (c0 : 0 ≤ c) : ∀ {l : List Int} {r : Int}, Srv p r l → c ≤ room p (r + l.sum) → Srv p r (insI c l)
  | [], r, _, h => by
    rw [List.sum_nil, Int.add_zero] at h
    exact ⟨h, True.intro⟩
  | d :: ds, r, ⟨h1, h2⟩, h => by
    unfold insI
    split
    · rename_i e
      refine ⟨by omega, Int.le_trans h1 (room_mono hp (by omega)), ?_⟩
      exact Srv.mono hp (by omega) h2
    · rw [List.sum_cons, ← Int.add_assoc] at h
      exact ⟨h1, Srv.ins hp c0 h2 h⟩
theorem room_pos {p r : Int} (hp : 2 ≤ p) (r0 : 0 ≤ r) : 1 ≤ room p r := by
  unfold room
  have := Int.ediv_nonneg r0 (show 0 ≤ p - 1 by omega)
  omega
theorem grow_front {p : Int} : ∀ (k : Nat) (a : Int), grow p (k + 1) a = grow p k (a + room p a)
  | 0, _ => rfl
  | k + 1, a => by
    show grow p (k + 1) a + room p (grow p (k + 1) a) = grow p k (a + room p a) + room p (grow p k (a + room p a))
    rw [grow_front k a]
theorem grow_add {p : Int} (hp : 2 ≤ p) : ∀ (k : Nat) {a : Int}, 0 ≤ a → a + k ≤ grow p k a
  | 0, a, _ => by show a + (0 : Nat) ≤ a; omega
  | k + 1, a, h => by
    have h1 := grow_add hp k h
    have h2 := room_pos hp (show 0 ≤ grow p k a by omega)
    show a + ((k + 1 : Nat) : Int) ≤ grow p k a + room p (grow p k a)
    omega
/-- a step of the greatest coins first -/
theorem coin_step {p t l c : Int} {k : Nat} (hp : 2 ≤ p) (h1 : (k : Int) + 1 ≤ l) (h2 : l ≤ t) (h3 : t ≤ grow p (k + 1) (t - l)) (hc : c = if l - k < room p (t - l) then l - k else room p (t - l)) :
    1 ≤ c ∧ c ≤ room p (t - l) ∧ (k : Int) ≤ l - c ∧ t ≤ grow p k (t - (l - c)) := by
  have r0 := room_pos hp (show 0 ≤ t - l by omega)
  by_cases e : l - k < room p (t - l)
  · rw [if_pos e] at hc
    have g := grow_add hp k (show 0 ≤ t - (l - c) by omega)
    refine ⟨by omega, by omega, by omega, by omega⟩
  · rw [if_neg e] at hc
    rw [grow_front] at h3
    have e2 : t - (l - c) = t - l + room p (t - l) := by omega
    rw [e2]
    exact ⟨by omega, by omega, by omega, h3⟩
theorem srv_up {p c r : Int} (p0 : 2 ≤ p) (p1 : p ≤ 5) (h : c ≤ room p r) : ¬ (r + c + p - 1) / p < c := by
  unfold room at h
  have e : p = 2 ∨ p = 3 ∨ p = 4 ∨ p = 5 := by omega
  rcases e with rfl | rfl | rfl | rfl <;> omega
theorem sum_perm {a b : List Int} (h : a.Perm b) : a.sum = b.sum := by
  induction h with
  | nil => rfl
  | cons x _ ih => rw [List.sum_cons, List.sum_cons, ih]
  | swap x y l => simp only [List.sum_cons]; omega
  | trans _ _ h1 h2 => exact h1.trans h2
/-- coins so far, in some order: sorted they serve -/
structure Good (p t l : Int) (ns : List Int) : Prop where
  pos : ∀ n, n ∈ ns → 1 ≤ n
  sum : ns.sum = t - l
  srt : ∃ ms : List Int, ms.Perm ns ∧ ms.Pairwise (· ≤ ·) ∧ Srv p 0 ms
theorem Good.nil {p t : Int} : Good p t t [] := ⟨fun _ h => absurd h List.not_mem_nil, by rw [List.sum_nil]; omega, [], .refl _, List.Pairwise.nil, True.intro⟩
theorem Good.put {p t l c : Int} {ns : List Int} (hp : 2 ≤ p) (g : Good p t l ns) (c1 : 1 ≤ c) (c2 : c ≤ room p (t - l)) : Good p t (l - c) (ns ++ [c]) := by
  obtain ⟨ms, h1, h2, h3⟩ := g.srt
  have es : ms.sum = t - l := by rw [sum_perm h1]; exact g.sum
  refine ⟨fun n hn => ?_, by rw [List.sum_append, g.sum]; simp; omega, insI c ms, (insI_perm c ms).trans ((h1.cons c).trans (List.perm_append_comm (l₁ := [c]))), insI_sorted h2, Srv.ins hp (by omega) h3 (by rw [es]; rwa [Int.zero_add])⟩
  rcases List.mem_append.mp hn with h | h
  · exact g.pos n h
  · rw [List.mem_singleton.mp h]; exact c1
theorem Good.out {p t l : Int} {ns ms : List Int} (g : Good p t l ns) (h1 : ms.Perm ns) (h2 : ms.Pairwise (· ≤ ·)) : Srv p 0 ms := by
  obtain ⟨ks, k1, k2, k3⟩ := g.srt
  rw [PySem.W.os_sorted_one (h1.trans k1.symm) h2 k2]
  exact k3
theorem dp_ints {K : PySem.W.Frag} {H : Hp} : ∀ ns : List Int, DpAll K H (ns.map V.int) (ns.map PyData.int)
  | [] => .nil
  | n :: ns => .cons (.int n) (dp_ints ns)
theorem eqv_ints : ∀ ns : List Int, PyData.eqvAll (ns.map PyData.int) (ns.map PyData.int) = true
  | [] => by simp [PyData.eqvAll]
  | n :: ns => by simp [PyData.eqvAll, PyData.eqv, eqv_ints ns]
theorem eq_ints {K : PySem.W.Frag} {H : Hp} {a b : Addr} {ns : List Int} {Q : VK} (ha : SqL K H a (ns.map V.int)) (hb : SqL K H b (ns.map V.int)) (q : Q (.bl true) H) : rEqD K (.ref a) (.ref b) H Q := by
  refine ⟨_, _, .lst ha (dp_ints ns), .lst hb (dp_ints ns), PySem.W.shaped_ints ns, PySem.W.shaped_ints ns, ?_⟩
  rw [show PyData.eqv (.list (ns.map PyData.int)) (.list (ns.map PyData.int)) = true by simp only [PyData.eqv]; exact eqv_ints ns]
  exact q
theorem ne_ints {K : PySem.W.Frag} {H : Hp} {a b : Addr} {ns : List Int} {Q : VK} (ha : SqL K H a (ns.map V.int)) (hb : SqL K H b (ns.map V.int)) (q : Q (.bl false) H) : rNeD K (.ref a) (.ref b) H Q := by
  refine ⟨_, _, .lst ha (dp_ints ns), .lst hb (dp_ints ns), PySem.W.shaped_ints ns, PySem.W.shaped_ints ns, ?_⟩
  rw [show PyData.eqv (.list (ns.map PyData.int)) (.list (ns.map PyData.int)) = true by simp only [PyData.eqv]; exact eqv_ints ns]
  exact q
theorem Srv.take {p : Int} : ∀ {ns : List Int} {r c : Int} {i : Nat}, Srv p r ns → ns[i]? = some c → c ≤ room p (r + (ns.take i).sum)
  | d :: ds, r, c, 0, h, e => by
    cases e
    rw [List.take_zero, List.sum_nil, Int.add_zero]
    exact h.1
  | d :: ds, r, c, i + 1, h, e => by
    rw [List.take_succ_cons, List.sum_cons, ← Int.add_assoc]
    exact Srv.take h.2 e
end Gen
set_option Elab.async false
set_option linter.all false
set_option maxRecDepth 100000
set_option maxHeartbeats 4000000
/-! ## enumerate over a list or a tuple -/
namespace Gen
open PySem PySem.Spec PyProof.Rows L2
/-- the object that enumerate(v) is, over the iterator that stands at i -/
abbrev enO (i : Addr) : Obj := { cls := .type "enumerate", data := .fields #[.none, .bool false, .ref i, rawInt 0, .none, .none] }
theorem meets_enum_newB {t : Addr} {o : Obj} {HH : Heap → Prop} (B : Begins (.ref t) o HH) :
    Meets (Builtin.«enumerate.__new__» ⟨[.type "enumerate", .ref t], []⟩) (fun _ R s => (HH s.heap ∧ ∃ u, s.heap.get? t = some u) ∧ R (.ok (.ret (.ref (s.heap.push o).objs.size))) { s with heap := (s.heap.push o).push (enO s.heap.objs.size) }) :=
  .of_wp fun prog w A R s h => by
    obtain ⟨hp, g, d, tk, os⟩ := s
    obtain ⟨⟨hh, u, hu⟩, h⟩ := h
    have kn := sub_enumerate
    have go : ∀ {A' : Around} {E' : Value → Shared → Prop} {Q' : Value → Shared → Prop}, Q' (.ref hp.objs.size) ⟨hp.push o, g, d, tk, os⟩ → wpAny (model prog w) A' (pyIter (.ref t)) Q' E' ⟨hp, g, d, tk, os⟩ := fun q => B.iter prog w _ _ ⟨hp, g, d, tk, os⟩ _ hh q
    wp_walk using AutoSeq1.wpAny_loadPart' hu
    refine wpAny_stack_any fun z => wpAny_pure ?_
    split
    · rename_i c _ _ _ _ _
      cases (c == Value.type "enumerate") <;>
      · wp_walk using AutoSeq1.wpAny_loadPart' hu, go
        exact ⟨_, rfl, h⟩
    · wp_walk using AutoSeq1.wpAny_loadPart' hu, go
      exact ⟨_, rfl, h⟩
section
variable {prog : Program} {w : World} {A : Around} {E : Value → Shared → Prop} {s : Shared}
theorem call_enum_tup {t : Addr} {items : Array Value} {Q : Value → Shared → Prop} (ht : s.heap.IsTuple t items)
    (h : ∀ h', IsEnum h' (s.heap.objs.size + 1) s.heap.objs.size 0 .none → h'.IsTupleIter s.heap.objs.size t 0 → (∀ b o, s.heap.get? b = some o → h'.get? b = some o) → Q (.ref (s.heap.objs.size + 1)) { s with heap := h' }) :
    wpAny (model prog w) A (call (.type "enumerate") [.ref t]) Q E s := by
  have ex : ∃ u, s.heap.get? t = some u := by obtain ⟨u, hu, _⟩ := ht; exact ⟨u, hu⟩
  refine callType_new F.called_enumerate (by decide) (F.typeCall_enumerate_1 _) (F.newCall_enumerate_1 _) (fun obj => F.args_object_init_2 obj _) F.entry_enumerate_new (meets_enum_newB (begins_tuple t items)) ⟨⟨ht, ex⟩, ?_⟩
  have z : ∀ ob : Obj, (s.heap.push ob).objs.size = s.heap.objs.size + 1 := fun ob => Heap.size_push ..
  show _ ∧ _
  rw [z]
  have he := Heap.get?_push_size (s.heap.push { cls := .type "tuple_iterator", data := .fields #[.ref t, .int 0 0] }) (o := enO s.heap.objs.size) rfl
  rw [z] at he
  exact ⟨⟨_, he, rfl⟩, h _ he ⟨_, Heap.get?_push_of_some _ (Heap.get?_push_size _ rfl), rfl, rfl⟩ fun b o x => Heap.get?_push_of_some _ (Heap.get?_push_of_some _ x)⟩
end
/-- the tuple at a as it stands, each of its things in a new pair with its place -/
def Itp (K : PySem.W.Frag) (a : Addr) : It where
  go i H := ∃ (xs : List V) (x : V), SqT K H a xs ∧ xs[i]? = some x
  yld i H v H' := ∃ T x, v = .ref T ∧ H T = none ∧ H' = upd H T (.tup [.int (i : Nat), x]) ∧ ∀ xs, SqT K H a xs → xs[i]? = some x
  stop i H := ∃ xs : List V, SqT K H a xs ∧ xs.length ≤ i
theorem draws_end {P : Program} {w : World} {A : Around} (hh : A.handled = none) (it t : Addr) (items : Array Value) (i : Nat) (hi : items.size ≤ i) :
    Draws P w A it [it, t] i (fun _ _ => True) (fun j h => j = i ∧ h.IsTupleIter it t j ∧ h.IsTuple t items) where
  live := fun _ _ st => let ⟨ob, hob, _⟩ := st.2.1; ⟨ob, hob⟩
  frame := fun _ _ _ st hk => ⟨st.1, st.2.1.at fun ob q => hk it (by simp) ob q, st.2.2.at fun ob q => hk t (by simp) ob q⟩
  item := fun j s Q E hj st _ => absurd st.1 (Nat.ne_of_lt hj)
  done := fun s Q E st hE => wpAny_nextOf_tuple_end hh st.2.1 st.2.2 (by simp [hi]) hE
theorem turn_enumT {P : Program} {w : World} {K : PySem.W.Frag} {xs0 : List Expr} {k0 : Nat} {ps0 : Pos} (a e it : Addr) :
    Turn P w K (.Tuple xs0 k0 ps0) (Itp K a) [e, it] e (fun i h => (∃ last, IsEnum h e it ((i : Nat) : Int) last) ∧ h.IsTupleIter it a i ∧ e ≠ it) where
  mem := List.mem_cons_self
  obj := by
    rintro i h ⟨⟨last, q1⟩, ⟨ob, q2, _, q3⟩, _⟩ b hb
    rcases List.mem_cons.mp hb with rfl | z
    · exact ⟨_, q1, fun v n => nomatch n⟩
    · rw [List.mem_singleton] at z
      exact ⟨ob, z ▸ q2, fun v n => by rw [q3] at n; cases n⟩
  keep := by
    rintro i h h' ⟨⟨last, q1⟩, q2, q3⟩ k
    exact ⟨⟨last, k e (by simp) _ q1⟩, q2.at fun ob q => k it (by simp) ob q, q3⟩
  item := by
    intro X hP hw hK hc i pins s z H E I hf st hg
    subst hP hw hK
    obtain ⟨⟨last, q1⟩, q2, ne⟩ := st
    obtain ⟨xs, x, hq, hx⟩ := hg
    obtain ⟨its, rv, pt, _⟩ := I.tuple hq
    obtain ⟨u, hu, ru⟩ := rv.get hx
    have lte : e < s.heap.objs.size := Heap.lt_size q1
    have lti : it < s.heap.objs.size := by obtain ⟨_, q, _⟩ := q2; exact Heap.lt_size q
    have ht : s.heap.IsTuple a its.toArray := pt
    have nai : a ≠ it := by
      obtain ⟨o1, g1, g2, _⟩ := ht
      obtain ⟨o2, g3, g4, _⟩ := q2
      intro y
      rw [y, g3] at g1
      cases g1
      rw [g4] at g2
      exact absurd g2 (by decide)
    have nea : e ≠ a := by
      obtain ⟨o1, g1, g2, _⟩ := ht
      intro y
      rw [← y, q1] at g1
      cases g1
      exact absurd (show Value.type "enumerate" = Value.type "tuple" from g2) (by decide)
    have hlt : i < its.toArray.size := by
      have l1 := (List.getElem?_eq_some_iff.mp hu).1
      simpa using l1
    refine wpAny_pyNext_enum_itemD (Draws.tuple (A := X.A.in1) (I.ok.hd hc) it a nai its.toArray) q1 ⟨q2, ht⟩ hlt ne (by simp [ne, nea]) fun y h' tk hy ho st' hT _ hk => ?_
    have ey : y = u := by
      have hy' : its.toArray[i]? = some y := hy
      rw [List.getElem?_toArray, hu] at hy'
      exact (Option.some.inj hy').symm
    subst ey
    refine ⟨_, rfl, wpAny_letOwnedTupleGo_enum (s := { s with heap := h', toks := tk + 1 }) ho fun h2 he2 sb => ?_⟩
    have hT2 : h2.get? s.heap.objs.size = some { cls := .type "tuple", data := .seq #[.int i tk, y] } := (sb.2 _ (Nat.ne_of_gt lte)).trans hT
    have new : ObjOk X.prog X.w (upd H s.heap.objs.size (.tup [.int (i : Nat), x])) h2 s.heap.objs.size (.tup [.int (i : Nat), x]) :=
      ⟨(show 2 ≤ sizeLine by decide), [.int i tk, y], .cons ⟨_, rfl⟩ (.cons ru .nil), ⟨_, hT2, rfl, _, rfl⟩⟩
    have old : ∀ b ob, b ∉ [e, it] → s.heap.get? b = some ob → h2.get? b = some ob := fun b ob hb q =>
      (sb.2 b fun n => hb (by simp [n])).trans (hk b ob (fun n => hb (by simp [n])) (fun n => hb (by simp [n])) q)
    have J := I.turnedNew (t' := tk + 1) (ch := [e, it]) old hf (Nat.le_refl _) new
    refine ⟨.ref s.heap.objs.size, _, J, rfl, ⟨_, x, rfl, I.hok.fresh (Nat.le_refl _), rfl, fun ys hy2 => by rw [I.tuple_inj hy2 hq]; exact hx⟩, ⟨⟨y, ?_⟩, st'.1.at fun ob q => (sb.2 it ne.symm).trans q, ne⟩, fun b hb => ?_⟩
    · have e1 : ((i + 1 : Nat) : Int) = (i : Int) + 1 := by omega
      exact e1 ▸ he2
    · have lb : b < s.heap.objs.size := by
        rcases List.mem_cons.mp hb with n | n
        · exact n ▸ lte
        · rw [List.mem_singleton.mp n]
          exact lti
      rw [upd_ne (Nat.ne_of_lt lb)]
      exact (hf b hb).1
  done := by
    intro X hP hw hK hc i pins s z H E I hf st hg
    subst hP hw hK
    obtain ⟨⟨last, q1⟩, q2, ne⟩ := st
    obtain ⟨xs, hq, hx⟩ := hg
    obtain ⟨its, rv, pt, _⟩ := I.tuple hq
    obtain ⟨f0, f1, f2, f3, f4, f5⟩ := hf it (by simp)
    have ln := rv.length
    exact wpAny_pyNext_enum_endD (draws_end (A := X.A.in1) (I.ok.hd hc) it a its.toArray i (by simp; omega)) q1 ⟨rfl, q2, pt⟩ fun h' eb => ⟨rfl, I.turned (t' := s.toks) (fun b ob hb q => eb b ob hb q) f0 f1 f3 f4 f5⟩
  self := by
    rintro A i s Q E ⟨⟨_, q1⟩, _⟩ h
    exact wpAny_pyIter_enum q1 h
/-- enumerate(v), v a list or a tuple -/
def iEnumE (K : PySem.W.Frag) (ta : TA) : TI := fun z H R => ta z H fun vs H1 => ∃ (a : Addr) (xs : List V), vs = [.ref a] ∧ ((SqL K H1 a xs ∧ R (Ite K a) H1) ∨ (SqT K H1 a xs ∧ R (Itp K a) H1))
theorem pi_enumE {X : Cx} {e : Expr} {ta : TA} {p pos ps0 : Pos} {xs0 : List Expr} {k0 : Nat} (hg : Gl X "enumerate") (hm : X.mg "enumerate" = none) (ha : PA X [e] ta) (hst : starEach [e] X.env = [(false, eval e X.env)] := by rfl) :
    PI X (.Tuple xs0 k0 ps0) (.Call (.Name "enumerate" p) [e] [] pos) (iEnumE X.K ta) := by
  refine ⟨fun pins s z H R I h => ?_⟩
  refine Call_ (ld_blt I hg hm boot_enumerate (PyProof.Rows.callWith_type1 (thn (ha.run pos pins s z H _ I h) fun us s1 ⟨vs, H1, I1, r1, q1⟩ => ?_) hst rfl))
  obtain ⟨a, xs, rfl, hq⟩ := q1
  rw [Vals.ref1 r1]
  have far : ∀ b, b ∈ [s1.heap.objs.size + 1, s1.heap.objs.size] → s1.heap.objs.size ≤ b := by
    intro b hb
    rcases List.mem_cons.mp hb with n | n
    · omega
    · rw [List.mem_singleton] at n
      omega
  rcases hq with ⟨hq, q⟩ | ⟨hq, q⟩
  · obtain ⟨its, rv, pl, _⟩ := I1.list hq
    refine call_enumerate_list pl.isList fun h' g1 g2 _ hk => wpAny_pyIter_enum g1 ?_
    have J := I1.kept (t' := s1.toks) hk
    exact ⟨s1.heap.objs.size + 1, [s1.heap.objs.size + 1, s1.heap.objs.size], _, _, H1, rfl, J, turn_enum a (s1.heap.objs.size + 1) s1.heap.objs.size, ⟨⟨.none, g1⟩, g2, Nat.succ_ne_self _⟩, fun b hb => I1.fpOk (far b hb) (I1.hok.fresh (far b hb)), q⟩
  · obtain ⟨its, rv, pt, _⟩ := I1.tuple hq
    refine call_enum_tup (show s1.heap.IsTuple a its.toArray from pt) fun h' g1 g2 hk => wpAny_pyIter_enum g1 ?_
    have J := I1.kept (t' := s1.toks) hk
    exact ⟨s1.heap.objs.size + 1, [s1.heap.objs.size + 1, s1.heap.objs.size], _, _, H1, rfl, J, turn_enumT a (s1.heap.objs.size + 1) s1.heap.objs.size, ⟨⟨.none, g1⟩, g2, Nat.succ_ne_self _⟩, fun b hb => I1.fpOk (far b hb) (I1.hok.fresh (far b hb)), q⟩
/-- for k, x in enumerate(t), t a tuple -/
theorem for_enumT {K : PySem.W.Frag} {a : Addr} {xs : List V} {g : TG} {tb : TS} {D : Ends} {z0 : L2.St} {H : Hp} (Pv : Nat → L2.St → Hp → Prop) (h0 : Pv 0 z0 H) (hl : ∀ i z h, i ≤ xs.length → Pv i z h → SqT K h a xs)
    (hs : ∀ i x T z h, xs[i]? = some x → h T = none → Pv i z h → g (.ref T) z (upd h T (.tup [.int (i : Nat), x])) fun z2 h2 => tb { D with nx := Pv (i + 1), ct := Pv (i + 1), bk := D.nx } z2 h2) (hd : ∀ z h, Pv xs.length z h → D.nx z h) :
    ∃ W : Nat → Nat → L2.St → Hp → Prop, (∃ m, W 0 m z0 H) ∧ ∀ i m z h, W i m z h →
      ((Itp K a).stop i h ∧ D.nx z h) ∨ ((Itp K a).go i h ∧ ∃ N : L2.St → Hp → Prop, (∀ z' h', N z' h' → ∃ m', m' < m ∧ W (i + 1) m' z' h') ∧ ∀ x h', (Itp K a).yld i h x h' → g x z h' fun z2 h2 => tb { D with nx := N, ct := N, bk := D.nx } z2 h2) := by
  refine ⟨fun i m z h => m = xs.length - i ∧ i ≤ xs.length ∧ Pv i z h, ⟨xs.length, by simp, Nat.zero_le _, h0⟩, ?_⟩
  rintro i m z h ⟨rfl, hi, p⟩
  have q := hl i z h hi p
  by_cases hlt : i < xs.length
  · refine .inr ⟨⟨xs, xs[i], q, by simp [hlt]⟩, Pv (i + 1), fun z' h' p' => ⟨xs.length - (i + 1), by omega, rfl, hlt, p'⟩, fun v h' y => ?_⟩
    obtain ⟨T, x, rfl, hT, rfl, hx⟩ := y
    exact hs i x T z h (hx xs q) hT p
  · obtain rfl : i = xs.length := by omega
    exact .inl ⟨⟨xs, q, Nat.le_refl _⟩, hd z h p⟩
end Gen
set_option Elab.async false
set_option linter.all false
set_option maxRecDepth 100000
set_option maxHeartbeats 4000000
/-! ## tuple.count of ints -/
namespace Gen
open PySem PySem.Spec PyProof.Rows L2
section
variable {X : Cx}
def rCntT (K : PySem.W.Frag) : V → List V → Hp → VK → Prop := fun x xs H Q => ∃ (p : Addr) (ns : List Int) (k : Int), x = .ref p ∧ xs = [.int k] ∧ SqT K H p (ns.map V.int) ∧ Q (.int (ns.count k : Nat)) H
theorem mt_tcount : MtR X "tuple.count" (rCntT X.K) := by
  intro pins s z H x xs v us Q I rx rxs h
  obtain ⟨p, ns, k, rfl, rfl, hs, q⟩ := h
  cases rx
  obtain ⟨u, rfl, ru⟩ := rxs.one
  obtain ⟨t, rfl⟩ := ru
  obtain ⟨its, rv, hl, hz⟩ := I.tuple hs
  obtain ⟨⟨cls, dd, data, sl⟩, ho, hc, n, hd⟩ := hl
  simp only at hc hd
  subst hc hd
  have hi := rv.ints
  refine call_meets PySem.F.slot_tuple_count ⟨_, ho, rfl⟩ PySem.F.entry_tuple_count (PySem.F.args_tuple_count_2 _ _)
    (SeqAt.tuple_countAt p its.toArray n dd sl (.int k t) (eqk k)) ⟨ho, fun y hy => (eqk_gives hi y (by simpa using hy)).at _ _, ?_⟩
  have ec : its.toArray.toList.countP (eqk k) = ns.count k := eqk_count hi
  refine ⟨.int (ns.count k : Nat), H, I.tok _, ⟨s.toks, ?_⟩, q⟩
  show Value.int ((its.toArray.toList.countP (eqk k) : Nat) : Int) s.toks = Value.int ((ns.count k : Nat) : Int) s.toks
  rw [ec]
/-- a tuple that is known to be a plain one -/
def TupN (H : Hp) (a : Addr) (xs : List V) : Prop := ∃ o : Obj, H a = some (.frz o (.tup xs)) ∧ o.cls = .type "tuple" ∧ o.dict = none
theorem TupN.sq {K : PySem.W.Frag} {H : Hp} {a : Addr} {xs : List V} (h : TupN H a xs) : SqT K H a xs := by
  obtain ⟨o, e, _⟩ := h
  exact .inl (.inr ⟨o, e⟩)
theorem TupN.same {H H' : Hp} {a : Addr} {xs : List V} (h : TupN H a xs) (s : Same H H') : TupN H' a xs := by
  obtain ⟨o, e, r⟩ := h
  exact ⟨o, s _ _ e, r⟩
theorem TupN.at {o : Obj} {H : Hp} {a : Addr} {xs : List V} (h1 : o.cls = .type "tuple") (h2 : o.dict = none) : TupN (upd H a (.frz o (.tup xs))) a xs := ⟨o, upd_same, h1, h2⟩
theorem call_tuple_ofN : CallR X (.type "tuple") (fun xs H Q => ∃ p ys, xs = [.ref p] ∧ SqL X.K H p ys ∧ ∀ (l : Addr) (o : Obj), H l = none → o.cls = .type "tuple" → o.dict = none → Q (.ref l) (upd H l (.frz o (.tup ys)))) := by
  intro pins s σ H xs us Q I r h
  obtain ⟨p, ys, rfl, hq, q⟩ := h
  rw [Vals.ref1 r]
  obtain ⟨its, r', pl, hz⟩ := I.list hq
  have hlen := r'.length
  refine call_tuple_list pl.isList (fun h' kp => ?_) (by simp only [List.size_toArray] <;> omega)
  have I1 : Inv X pins σ H { s with heap := h' } := I.kept (t' := s.toks) kp
  have I2 : Inv X pins σ (upd H h'.objs.size (.frz { cls := .type "tuple", data := .seq its.toArray } (.tup ys))) { s with heap := h'.push { cls := .type "tuple", data := .seq its.toArray } } :=
    I1.laid (t' := s.toks) (fun b o e => Heap.get?_push_of_some _ e) (Nat.le_refl _) (show ObjOk X.prog X.w _ _ _ (.frz _ (.tup ys)) from ⟨Heap.get?_push_size _ rfl, hz, its, r', IsTup.new _ _⟩)
  exact ⟨.ref h'.objs.size, _, I2, rfl, q _ _ (I1.hok.fresh (Nat.le_refl _)) rfl rfl⟩
def tTM (r : V → List V → Hp → VK → Prop) (to : TE) (t : TA) : TE := fun σ H Q => to σ H fun x H1 => (∃ p xs, x = .ref p ∧ TupN H1 p xs) ∧ t σ H1 fun xs H2 => r x xs H2 Q
variable {o e : Expr} {es : List Expr} {to : TE} {t : TA} {name : Str} {apos cpos : Pos} {id : String} {r : V → List V → Hp → VK → Prop}
theorem pe_tm (pa : PlainAttrs "tuple") (slot : Slot "tuple" name id) (hty : typeOf (.builtin id) = pure (.type "method_descriptor")) (hm : MtR X id r) (ho : PE X o to) (ha : PA X (e :: es) t)
    (hbase : attributeBase o name X.env (eval o X.env) = eval o X.env := by rfl)
    (hfew : ((backTo cpos (starEach (e :: es) X.env)).all (fun x => !x.1) && (backToKw cpos (keywordEach [] X.env)).all (fun x => x.1.isSome)
      && decide ((e :: es).length + ([] : List Keyword).length + (if ([] : List Keyword).isEmpty then 0 else 1) < 30)) = true := by rfl)
    (hline : (apos.endLine == cpos.line) = true := by rfl) (hs : starEach (e :: es) X.env = (false, eval e X.env) :: starEach es X.env := by rfl) (hplain : (backTo cpos (starEach es X.env)).any (·.1) = false := by rfl) :
    PE X (.Call (.Attribute o name apos) (e :: es) [] cpos) (tTM r to t) := by
  refine ⟨fun pins s σ H Q I h => ?_⟩
  refine wpAny_Call_method_late hbase hfew hline rfl (thn (ho.run pins s σ H _ I h) fun v s1 ⟨x, H1, I1, r1, ty, q1⟩ => ?_)
  obtain ⟨p, xs, ex, hp⟩ := ty
  subst ex
  obtain ⟨ob, ea, hc, hd⟩ := hp
  cases r1
  obtain ⟨eo, _⟩ := (show ObjOk X.prog X.w H1 s1.heap p (.frz ob (.tup xs)) from I1.hok p _ ea)
  refine ⟨"tuple", id, pa, slot, hty, ⟨ob, eo, hc⟩, fun a e2 => ?_, ?_⟩
  · cases e2
    exact ⟨ob, eo, hd⟩
  · have hA := ha.run cpos pins s1 σ H1 _ I1 q1
    rw [hs] at hA ⊢
    refine Calls.callWith_builtin (by show (false || (backTo cpos (starEach es X.env)).any (·.1)) = false; rw [hplain] <;> rfl) (Calls.evalArgs_plain ?_)
    exact thn hA fun us s2 ⟨vs, H2, I2, r2, q2⟩ => hm pins s2 σ H2 (.ref p) vs (.ref p) us Q I2 rfl r2 q2
theorem mt_tcountK {K : PySem.W.Frag} (hK : X.K = K) : MtR X "tuple.count" (rCntT K) := hK ▸ mt_tcount
end
end Gen
set_option Elab.async false
set_option linter.all false
set_option maxRecDepth 100000
set_option maxHeartbeats 4000000
/-! ## set(list of ints), sorted(set) of any length -/
namespace Gen
open PySem PySem.Spec PyProof.Rows L2
@[reducible] def vacant (w : World) : Obj := { cls := Value.type "set", dict := none, data := .set #[] 0 (.fresh 0 0 (!w.params.followText "set-order")) }
section
variable {P : Program} {w : World} {A : Around} {E : Value → Shared → Prop} {s : Shared}
/-- set(l) of a list of ints, however many -/
theorem set_of_ints {l : Addr} {its : Array Value} (ns : List Int) {Q : Value → Shared → Prop} (nh : A.handled = none) (il : s.heap.IsList l its) (ii : IntsAre its.toList ns) (le : ns.length + 1 < scanBound)
    (done : ∀ (g : Heap) (tk c : Nat), SetR w g s.heap.objs.size (fun j => decide (j ∈ ns)) c → c ≤ ns.length → (∀ b o, s.heap.get? b = some o → g.get? b = some o) → Q (.ref s.heap.objs.size) { s with heap := g, toks := tk }) :
    wpAny (model P w) A (call (.type "set") [.ref l]) Q E s := by
  have ez : its.size = ns.length := by
    rw [← IntsAre.length ii, Array.length_toList]
  have ⟨c1, t1, em⟩ := F.called_set.mro
  have ea := F.called_set.made; have eb := F.called_set.sub
  refine wpAny_call (codeAny_of_tree (?_ : wpAny _ _ (callAny (.type "set") _) _ _ _))
  refine wpAny_pure ⟨Code.quiet_builtin _ (by decide +kernel), codeAny_builtin F.entry_type_call ?_⟩
  rw [Around.under_plain (weight_type_call_type "set" [.ref l] []) rfl]
  have ec := F.called_set.notType; have ed := F.called_set.canCreate
  have ef := F.typeCall_set_1 (.ref l)
  repeat any_goals first | assumption | wp_step
  refine codeAny_mono (code_set_led1 (.ref l) (E := E) (Q₁ := fun x s1 => x = .ref s.heap.objs.size ∧ s1 = { s with heap := s.heap.push (vacant w) }) ⟨rfl, rfl⟩) fun r s1 hr => ?_
  match r, hr with
  | .error e, hr => exact hr
  | .ok (.ret x), hr =>
    obtain ⟨rfl, rfl⟩ := hr
    have at0 : (s.heap.push (vacant w)).get? s.heap.objs.size = some (vacant w) := Heap.get?_push_size _ rfl
    have ty : Shared.TypeIs { s with heap := s.heap.push (vacant w) } (.ref s.heap.objs.size) "set" := ⟨_, at0, rfl⟩
    have eg := F.called_set.init.lookup; have eh := F.called_set.init.bind (.ref s.heap.objs.size)
    repeat any_goals first | assumption | wp_step
    refine codeAny_mono (codeAny_call_builtin (R := wants (fun r s2 => r = .none ∧ ∃ g tk c, s2 = { s with heap := g, toks := tk } ∧ SetR w g s.heap.objs.size (fun j => decide (j ∈ ns)) c ∧ c ≤ ns.length ∧
        (∀ b o, s.heap.get? b = some o → g.get? b = some o)) E) F.called_set.init.plain F.entry_set_init (check_set_init_1 ty ?_)) fun r2 s2 hr2 => ?_
    · obtain ⟨⟨kc, kd, kx, ks⟩, ho, kcl, nl, kdt⟩ := il
      simp only at kcl kdt
      subst kcl kdt
      have ho1 := Heap.get?_push_of_some (vacant w) ho
      have ua := F.sub_list_set; have ub := F.sub_list_frozenset
      have uc : (Value.type "list" == Value.type "dict") = false := by decide
      have il1 : (s.heap.push (vacant w)).IsList l its := ⟨_, ho1, rfl, nl, rfl⟩
      unfold Builtin.«set.__init__» noKeywords Builtin.Frozenset.updateFrom
      generalize pg : pyIter = PG
      wp_walk
      subst pg
      refine wpAny_pyIter_list il1 (wpAny_bind (wpAny_runValue ?_))
      have lt : l < s.heap.objs.size := Heap.lt_size ho
      have nh3 : A.in1.in1.in1.handled = none := by simpa using nh
      have sz : (s.heap.push (vacant w)).objs.size = s.heap.objs.size + 1 := Heap.size_push ..
      have ne : l ≠ (s.heap.push (vacant w)).objs.size := by rw [sz]; exact Nat.ne_of_lt (Nat.lt_succ_of_lt lt)
      have nf : s.heap.objs.size ∉ [(s.heap.push (vacant w)).objs.size, l] := by
        rw [sz]
        simp only [List.mem_cons, List.not_mem_nil, or_false, not_or]
        exact ⟨Nat.ne_of_lt (Nat.lt_succ_self _), Nat.ne_of_gt lt⟩
      have vals : ∀ (i : Nat) (v : Value), its[i]? = some v → ∃ k t, ns[i]? = some k ∧ v = .int k t := fun i v hv => by
        have il : i < ns.length := ez ▸ (Array.getElem?_eq_some_iff.mp hv).1
        obtain ⟨t, e⟩ := PyProof.Rows.IntsAre.int_at ii i v (by rw [Array.getElem?_toList]; exact hv)
        exact ⟨ns[i], t, List.getElem?_eq_getElem il, by rw [e, List.getD_eq_getElem?_getD, List.getElem?_eq_getElem il] <;> rfl⟩
      refine set_update_ints ((Walks.list nh3 _ l ne its).toS) s.heap.objs.size nf ns ez le vals (its.size - 0) 0 _ (by omega) (Nat.zero_le _) ⟨⟨_, Heap.get?_push_size _ rfl, rfl, rfl⟩, il1.push _⟩ ⟨0, Nat.le_refl 0, setR_new_at (Heap.get?_push_of_some _ at0)⟩ ?_
      intro s3 c3 hm hc3 R3
      obtain ⟨g3, gg, dd, tk3, oo⟩ := s3
      obtain rfl : gg = s.gens := hm.gens
      obtain rfl : dd = s.drawn := hm.drawn
      obtain rfl : oo = s.os := hm.os
      refine (wpAny_pure ?_ : wpAny _ _ _ _ _ _)
      show wpAny _ _ (ret .none) _ _ _
      rw [ez] at hc3
      refine wpAny_pure ⟨rfl, g3, tk3, c3, rfl, R3, hc3, fun b o e => ?_⟩
      have lb := Heap.lt_size e
      refine hm.heap b o (fun z => ?_) (Heap.get?_push_of_some _ (Heap.get?_push_of_some _ e))
      simp only [List.mem_cons, List.not_mem_nil, or_false] at z
      rcases z with z | z
      · exact Nat.ne_of_lt lb z
      · exact Nat.ne_of_lt (Nat.lt_succ_of_lt lb) (z.trans sz)
    · match r2, hr2 with
      | .error e, hr2 => exact hr2
      | .ok (.ret x), hr2 =>
        obtain ⟨rfl, g, tk, c, rfl, R, hc, keep⟩ := hr2
        repeat any_goals first | assumption | wp_step
        exact done _ _ _ R hc keep
/-- sorted(x) of a set of ints, however many -/
theorem sorted_ints_set {a : Addr} {S : Int → Bool} {n : Nat} {Q : Value → Shared → Prop} (R : SetR w s.heap a S n) (nh : A.handled = none)
    (done : ∀ (s1 : Shared) (g : Heap) (out : Array Value) (ep : Nat) (ns : List Int), (∀ b o, s.heap.get? b = some o → s1.heap.get? b = some o) → s1.gens = s.gens → s1.os = s.os → (∀ b o, s1.heap.get? b = some o → g.get? b = some o) → ns.length ≤ sizeLine →
      g.get? s1.heap.objs.size = some (seqObj "list" out ep) → IntsAre out.toList ns → ns.Pairwise (· < ·) → (∀ k, k ∈ ns ↔ S k = true) → Q (.ref s1.heap.objs.size) { s1 with heap := g }) :
    wpAny (model P w) A (call (.builtin "sorted") [.ref a]) Q E s := by
  obtain ⟨o, es, ep, t, ho, ex, ed, g, nd, mm, lb, fi, cn, ri, ll⟩ := R
  refine Calls.call_function_entry kind_sorted plain_sorted entry_sorted (args_sorted1 _) ?_
  rw [Builtin.«sorted»]
  refine wpAny_bind (m := checkCount "sorted" 1 1 _) (wpAny_pure ?_)
  refine wpAny_bind (collect_set nh ⟨o, ho, ex.1, ed⟩ fi lb ri ll fun s1 vs keep _ g1 o1 pm => ?_)
  have vi : IntsAre vs (vs.map Builtin.Re.reRawOf) := ints_of vs fun v hv => by
    obtain ⟨e, he, rfl⟩ := List.mem_map.mp (pm.mem_iff.mp hv)
    obtain ⟨k, tk, q, _⟩ := g e he
    exact ⟨k, tk, q⟩
  have pk : (vs.map Builtin.Re.reRawOf).Perm (es.toList.map keyOf) := by
    have z := pm.map Builtin.Re.reRawOf
    rwa [List.map_map] at z
  have vz : vs.length ≤ sizeLine := by
    rw [pm.length_eq, List.length_map, Array.length_toList]
    exact fits_of_scanBound lb
  refine wpAny_bind (wpAny_newList ?_ vz)
  have at0 : (s1.heap.push (seqObj "list" vs.toArray 0)).get? s1.heap.objs.size = some (seqObj "list" vs.toArray 0) := Heap.get?_push_size _ rfl
  refine wpAny_bind (wpAny_holding (wpAny_call_entry slot_list_sort ⟨_, at0, rfl⟩ entry_list_sort (list_sort_treeAny at0 vi vz fun out ns a1 a2 a3 => ⟨_, rfl, ?_⟩) (args_list_sort _)))
  obtain ⟨e, he⟩ := sortedHeap_at (out := out) at0
  exact wpAny_pure ⟨_, rfl, done s1 _ out e ns keep g1 o1 (fun b u hb => by
    have lt := Heap.lt_size hb
    rw [sortedHeap_old (Nat.ne_of_lt lt) (by rw [size_push']; exact Nat.lt_succ_of_lt lt)]
    exact Heap.get?_push_of_some _ hb) (by rw [a2.length_eq, List.length_map]; exact vz) he a1 ((a3.and ((a2.trans pk).nodup_iff.mpr nd)).imp fun ⟨x, y⟩ => Int.lt_iff_le_and_ne.mpr ⟨x, y⟩) (fun k => by rw [(a2.trans pk).mem_iff, ← mm k])⟩
end
section
variable {X : Cx}
def rSetOf (w : World) (K : PySem.W.Frag) : List V → Hp → VK → Prop := fun vs H Q => ∃ (a : Addr) (ns : List Int), vs = [V.ref a] ∧ SqE K H a (ns.map V.int) ∧ ns.length ≤ 1000 ∧ ∀ (p : Addr) (c : Nat), H p = none → Q (.ref p) (upd H p (SetO w p (fun j => decide (j ∈ ns)) c))
theorem cr_setOf (hc : X.calm = true) : CallR X (.type "set") (rSetOf X.w X.K) := by
  intro pins s z H vs us Q I r h
  obtain ⟨a, ns, rfl, hs, hn, q⟩ := h
  rw [Vals.ref1 r]
  rcases hs with hs | hs
  · obtain ⟨its, rv, hl, _⟩ := I.list hs
    exact set_of_ints ns (I.ok.hd hc) hl.isList rv.ints (by unfold scanBound; omega) fun g tk c R _ k => ⟨.ref _, upd H s.heap.objs.size (SetO X.w s.heap.objs.size (fun j => decide (j ∈ ns)) c), I.laid (t' := tk) k (Nat.le_refl _) (setO_new R), rfl, q _ _ (I.hok.fresh (Nat.le_refl _))⟩
  · obtain ⟨its, rv, hl, _⟩ := I.tuple hs
    exact call_set_tupI ns (I.ok.hd hc) (show s.heap.IsTuple a its.toArray from hl) rv.ints (by unfold scanBound; omega) fun g tk c R _ k => ⟨.ref _, upd H s.heap.objs.size (SetO X.w s.heap.objs.size (fun j => decide (j ∈ ns)) c), I.laid (t' := tk) k (Nat.le_refl _) (setO_new R), rfl, q _ _ (I.hok.fresh (Nat.le_refl _))⟩
def rSrtSet (w : World) : List V → Hp → VK → Prop := fun vs H Q => ∃ (a : Addr) (S : Int → Bool) (n : Nat), vs = [V.ref a] ∧ H a = some (SetO w a S n) ∧ ∀ (ns : List Int) (p : Addr), ns.Pairwise (· < ·) → (∀ k, k ∈ ns ↔ S k = true) → H p = none → Q (.ref p) (upd H p (.lst (ns.map V.int)))
theorem cr_srtSet (hc : X.calm = true) : CallR X (.builtin "sorted") (rSrtSet X.w) := by
  intro pins s z H vs us Q I r h
  obtain ⟨a, S, n, rfl, hs, q⟩ := h
  rw [Vals.ref1 r]
  refine sorted_ints_set (setO_get I hs) (I.ok.hd hc) fun s1 g out ep ns k1 g1 o1 k2 hz at_ i1 i2 i3 => ?_
  have I1 := I.call' (ch := []) o1 (Un.kept k1) (I.hok.kept k1) (by rw [g1]; exact I.bare) (fun _ z => nomatch z)
  exact ⟨.ref _, upd H s1.heap.objs.size (.lst (ns.map V.int)), I1.laid (t' := s1.toks) k2 (Nat.le_refl _) ⟨by rw [List.length_map]; exact hz, out.toList, ep, vals_of_ints i1, at_⟩, rfl, q ns _ i2 i3 (I1.hok.fresh (Nat.le_refl _))⟩
end
end Gen
set_option Elab.async false
set_option linter.all false
set_option maxRecDepth 100000
set_option maxHeartbeats 4000000
/-! ## rules for a K that is named: within a comprehension -/
namespace Gen
open PySem PySem.Spec PyProof.Rows L2
section
variable {X : Cx} {K : PySem.W.Frag}
theorem sl_tupAK (hK : X.K = K) : SlR X (rSlA K) := hK ▸ sl_tupA
theorem sl_listK (hK : X.K = K) : SlR X (rSlL K) := hK ▸ sl_list
theorem ix_tupK (hK : X.K = K) : IxR X (rIxT K) := hK ▸ ix_tup
theorem ix_listK (hK : X.K = K) : IxR X (rIxL K) := hK ▸ ix_list
theorem cr_sumEK (hK : X.K = K) (hc : X.calm = true) : CallR X (.builtin "sum") (rSumE K) := hK ▸ cr_sumE hc
theorem cr_sortedEK (hK : X.K = K) : CallR X (.builtin "sorted") (rSortedE K) := hK ▸ cr_sortedE
theorem call_len_seqK (hK : X.K = K) : CallR X (.builtin "len") (fun xs H Q => ∃ p ys, xs = [V.ref p] ∧ (SqL K H p ys ∨ SqT K H p ys) ∧ Q (.int ys.length) H) := hK ▸ call_len_seq
theorem call_isiK (hK : X.K = K) : CallR X (.builtin "isinstance") (rIsi K) := hK ▸ call_isi
theorem call_tuple_ofK (hK : X.K = K) : CallR X (.type "tuple") (fun xs H Q => ∃ p ys, xs = [.ref p] ∧ ((SqL K H p ys ∧ ∀ l, H l = none → Q (.ref l) (upd H l (.tup ys))) ∨ (SqT K H p ys ∧ Q (.ref p) H))) := hK ▸ call_tuple_of
theorem op_in_seqK (hK : X.K = K) : OpR X (compareOp .In) (rIn K false) := hK ▸ op_in_seq
theorem op_notIn_seqK (hK : X.K = K) : OpR X (compareOp .NotIn) (rIn K true) := hK ▸ op_notIn_seq
theorem op_catAK (hK : X.K = K) : OpR X (binaryOp .Add) (rCatA K) := hK ▸ op_catA
end
end Gen
set_option Elab.async false
set_option linter.all false
set_option maxRecDepth 100000
set_option maxHeartbeats 4000000
namespace My
open PySem PySem.Spec PyProof.Rows L2 Gen
/-! ### the text by places -/
def top (i : Nat) : Stmt := PySem.Challenge.pw_anyworths_k01_pools_people_and_amounts_c.main.body.getD i (.Pass ⟨0, 0, 0, 0⟩)
abbrev s_i_BadPool : Stmt := inClass (top 2) 0
abbrev nm_i_BadPool : List Str := ["self", "place", "what"]
abbrev ps_i_BadPool : List Str := ["self", "place", "what"]
theorem sc_i_BadPool : FnScope nm_i_BadPool ps_i_BadPool (defScope s_i_BadPool) := ⟨rfl, rfl, rfl, by decide +kernel, rfl, by decide +kernel, by decide +kernel⟩
abbrev s_is_number : Stmt := top 11
abbrev nm_is_number : List Str := ["thing"]
abbrev ps_is_number : List Str := ["thing"]
theorem sc_is_number : FnScope nm_is_number ps_is_number (defScope s_is_number) := ⟨rfl, rfl, rfl, by decide +kernel, rfl, by decide +kernel, by decide +kernel⟩
abbrev s_is_whole : Stmt := top 12
abbrev nm_is_whole : List Str := ["thing", "low", "high"]
abbrev ps_is_whole : List Str := ["thing", "low", "high"]
theorem sc_is_whole : FnScope nm_is_whole ps_is_whole (defScope s_is_whole) := ⟨rfl, rfl, rfl, by decide +kernel, rfl, by decide +kernel, by decide +kernel⟩
abbrev s_is_row : Stmt := top 13
abbrev nm_is_row : List Str := ["thing", "least", "most"]
abbrev ps_is_row : List Str := ["thing", "least", "most"]
theorem sc_is_row : FnScope nm_is_row ps_is_row (defScope s_is_row) := ⟨rfl, rfl, rfl, by decide +kernel, rfl, by decide +kernel, by decide +kernel⟩
abbrev s_check_pool : Stmt := top 14
abbrev nm_check_pool : List Str := ["coins", "place", "coin"]
abbrev ps_check_pool : List Str := ["coins"]
theorem sc_check_pool : FnScope nm_check_pool ps_check_pool (defScope s_check_pool) := ⟨rfl, rfl, rfl, by decide +kernel, rfl, by decide +kernel, by decide +kernel⟩
abbrev s_check_people : Stmt := top 15
abbrev nm_check_people : List Str := ["people", "low"]
abbrev ps_check_people : List Str := ["people", "low"]
theorem sc_check_people : FnScope nm_check_people ps_check_people (defScope s_check_people) := ⟨rfl, rfl, rfl, by decide +kernel, rfl, by decide +kernel, by decide +kernel⟩
abbrev s_check_person : Stmt := top 16
abbrev nm_check_person : List Str := ["people", "person"]
abbrev ps_check_person : List Str := ["people", "person"]
theorem sc_check_person : FnScope nm_check_person ps_check_person (defScope s_check_person) := ⟨rfl, rfl, rfl, by decide +kernel, rfl, by decide +kernel, by decide +kernel⟩
abbrev s_check_amount : Stmt := top 17
abbrev nm_check_amount : List Str := ["amount", "low"]
abbrev ps_check_amount : List Str := ["amount", "low"]
theorem sc_check_amount : FnScope nm_check_amount ps_check_amount (defScope s_check_amount) := ⟨rfl, rfl, rfl, by decide +kernel, rfl, by decide +kernel, by decide +kernel⟩
abbrev s_total_of : Stmt := top 18
abbrev nm_total_of : List Str := ["pool"]
abbrev ps_total_of : List Str := ["pool"]
theorem sc_total_of : FnScope nm_total_of ps_total_of (defScope s_total_of) := ⟨rfl, rfl, rfl, by decide +kernel, rfl, by decide +kernel, by decide +kernel⟩
abbrev s_counted_coins : Stmt := top 19
abbrev nm_counted_coins : List Str := ["pool"]
abbrev ps_counted_coins : List Str := ["pool"]
theorem sc_counted_coins : FnScope nm_counted_coins ps_counted_coins (defScope s_counted_coins) := ⟨rfl, rfl, rfl, by decide +kernel, rfl, by decide +kernel, by decide +kernel⟩
abbrev s_counted : Stmt := top 20
abbrev nm_counted : List Str := ["coins", "worth"]
abbrev ps_counted : List Str := ["coins"]
theorem sc_counted : FnScope nm_counted ps_counted (defScope s_counted) := ⟨rfl, rfl, rfl, by decide +kernel, rfl, by decide +kernel, by decide +kernel⟩
abbrev s_l_mix : Stmt := top 22
abbrev nm_l_mix : List Str := ["_law_number", "_law_turn", "_law_once", "_law_twice"]
abbrev ps_l_mix : List Str := ["_law_number", "_law_turn"]
theorem sc_l_mix : FnScope nm_l_mix ps_l_mix (defScope s_l_mix) := ⟨rfl, rfl, rfl, by decide +kernel, rfl, by decide +kernel, by decide +kernel⟩
abbrev s_l_hand : Stmt := top 23
abbrev nm_l_hand : List Str := ["_law_script", "_law_total", "_law_k", "_law_cell"]
abbrev ps_l_hand : List Str := ["_law_script"]
theorem sc_l_hand : FnScope nm_l_hand ps_l_hand (defScope s_l_hand) := ⟨rfl, rfl, rfl, by decide +kernel, rfl, by decide +kernel, by decide +kernel⟩
abbrev s_l_draw : Stmt := top 24
abbrev nm_l_draw : List Str := ["_law_hand_here", "_law_many", "_law_cell", "_law_rest"]
abbrev ps_l_draw : List Str := ["_law_hand_here", "_law_many"]
theorem sc_l_draw : FnScope nm_l_draw ps_l_draw (defScope s_l_draw) := ⟨rfl, rfl, rfl, by decide +kernel, rfl, by decide +kernel, by decide +kernel⟩
abbrev s_l_big : Stmt := top 25
abbrev nm_l_big : List Str := ["_law_hand_here", "_law_many", "_law_number", "_law_k"]
abbrev ps_l_big : List Str := ["_law_hand_here", "_law_many"]
theorem sc_l_big : FnScope nm_l_big ps_l_big (defScope s_l_big) := ⟨rfl, rfl, rfl, by decide +kernel, rfl, by decide +kernel, by decide +kernel⟩
abbrev s_l_whole : Stmt := top 26
abbrev nm_l_whole : List Str := ["_law_thing"]
abbrev ps_l_whole : List Str := ["_law_thing"]
theorem sc_l_whole : FnScope nm_l_whole ps_l_whole (defScope s_l_whole) := ⟨rfl, rfl, rfl, by decide +kernel, rfl, by decide +kernel, by decide +kernel⟩
abbrev s_l_lot_like : Stmt := top 27
abbrev nm_l_lot_like : List Str := ["_law_told", "_law_coin"]
abbrev ps_l_lot_like : List Str := ["_law_told"]
theorem sc_l_lot_like : FnScope nm_l_lot_like ps_l_lot_like (defScope s_l_lot_like) := ⟨rfl, rfl, rfl, by decide +kernel, rfl, by decide +kernel, by decide +kernel⟩
abbrev s_l_row_like : Stmt := top 28
abbrev nm_l_row_like : List Str := ["_law_told", "_law_number"]
abbrev ps_l_row_like : List Str := ["_law_told"]
theorem sc_l_row_like : FnScope nm_l_row_like ps_l_row_like (defScope s_l_row_like) := ⟨rfl, rfl, rfl, by decide +kernel, rfl, by decide +kernel, by decide +kernel⟩
abbrev s_l_serving : Stmt := top 29
abbrev nm_l_serving : List Str := ["_law_hand_here", "_law_many", "_law_people_here", "_law_coins", "_law_k", "_law_room", "_law_mode"]
abbrev ps_l_serving : List Str := ["_law_hand_here", "_law_many", "_law_people_here"]
theorem sc_l_serving : FnScope nm_l_serving ps_l_serving (defScope s_l_serving) := ⟨rfl, rfl, rfl, by decide +kernel, rfl, by decide +kernel, by decide +kernel⟩
abbrev s_l_pool : Stmt := top 30
abbrev nm_l_pool : List Str := ["_law_hand_here", "_law_most", "_law_people_here", "_law_many", "_law_mode", "_law_k", "_law_coins", "_law_at"]
abbrev ps_l_pool : List Str := ["_law_hand_here", "_law_most", "_law_people_here"]
theorem sc_l_pool : FnScope nm_l_pool ps_l_pool (defScope s_l_pool) := ⟨rfl, rfl, rfl, by decide +kernel, rfl, by decide +kernel, by decide +kernel⟩
abbrev s_l_great : Stmt := top 31
abbrev nm_l_great : List Str := ["_law_hand_here", "_law_most", "_law_many", "_law_coins", "_law_k"]
abbrev ps_l_great : List Str := ["_law_hand_here", "_law_most"]
theorem sc_l_great : FnScope nm_l_great ps_l_great (defScope s_l_great) := ⟨rfl, rfl, rfl, by decide +kernel, rfl, by decide +kernel, by decide +kernel⟩
abbrev s_l_turned : Stmt := top 32
abbrev nm_l_turned : List Str := ["_law_hand_here", "_law_coins", "_law_out", "_law_coin"]
abbrev ps_l_turned : List Str := ["_law_hand_here", "_law_coins"]
theorem sc_l_turned : FnScope nm_l_turned ps_l_turned (defScope s_l_turned) := ⟨rfl, rfl, rfl, by decide +kernel, rfl, by decide +kernel, by decide +kernel⟩
abbrev s_l_odd : Stmt := top 33
abbrev nm_l_odd : List Str := ["_law_hand_here", "_law_big_here"]
abbrev ps_l_odd : List Str := ["_law_hand_here"]
theorem sc_l_odd : FnScope nm_l_odd ps_l_odd (defScope s_l_odd) := ⟨rfl, rfl, rfl, by decide +kernel, rfl, by decide +kernel, by decide +kernel⟩
abbrev s_l_odd_coin : Stmt := top 34
abbrev nm_l_odd_coin : List Str := ["_law_hand_here"]
abbrev ps_l_odd_coin : List Str := ["_law_hand_here"]
theorem sc_l_odd_coin : FnScope nm_l_odd_coin ps_l_odd_coin (defScope s_l_odd_coin) := ⟨rfl, rfl, rfl, by decide +kernel, rfl, by decide +kernel, by decide +kernel⟩
abbrev s_l_refused : Stmt := top 35
abbrev nm_l_refused : List Str := ["_law_coins", "_law_way", "_law_told", "e"]
abbrev ps_l_refused : List Str := ["_law_coins", "_law_way"]
theorem sc_l_refused : FnScope nm_l_refused ps_l_refused (defScope s_l_refused) := ⟨rfl, rfl, rfl, by decide +kernel, rfl, by decide +kernel, by decide +kernel⟩
abbrev s_l_people : Stmt := top 36
abbrev nm_l_people : List Str := ["_law_people_here", "_law_low", "_law_told"]
abbrev ps_l_people : List Str := ["_law_people_here", "_law_low"]
theorem sc_l_people : FnScope nm_l_people ps_l_people (defScope s_l_people) := ⟨rfl, rfl, rfl, by decide +kernel, rfl, by decide +kernel, by decide +kernel⟩
abbrev s_l_person : Stmt := top 37
abbrev nm_l_person : List Str := ["_law_people_here", "_law_person_here", "_law_told"]
abbrev ps_l_person : List Str := ["_law_people_here", "_law_person_here"]
theorem sc_l_person : FnScope nm_l_person ps_l_person (defScope s_l_person) := ⟨rfl, rfl, rfl, by decide +kernel, rfl, by decide +kernel, by decide +kernel⟩
abbrev s_l_amount : Stmt := top 38
abbrev nm_l_amount : List Str := ["_law_amount_here", "_law_low", "_law_told"]
abbrev ps_l_amount : List Str := ["_law_amount_here", "_law_low"]
theorem sc_l_amount : FnScope nm_l_amount ps_l_amount (defScope s_l_amount) := ⟨rfl, rfl, rfl, by decide +kernel, rfl, by decide +kernel, by decide +kernel⟩
abbrev s_l_good : Stmt := top 39
abbrev nm_l_good : List Str := ["_law_hand_here", "_law_coins", "_law_given", "_law_kept", "_law_told", "_law_total", "_law_counted", "_law_row", "_law_due", "_law_coin"]
abbrev ps_l_good : List Str := ["_law_hand_here", "_law_coins"]
theorem sc_l_good : FnScope nm_l_good ps_l_good (defScope s_l_good) := ⟨rfl, rfl, rfl, by decide +kernel, rfl, by decide +kernel, by decide +kernel⟩
abbrev s_l_numbers : Stmt := top 40
abbrev nm_l_numbers : List Str := ["_law_hand_here", "_law_odd_here", "_law_low", "_law_people_here", "_law_due", "_law_many", "_law_person_here", "_law_amount_here"]
abbrev ps_l_numbers : List Str := ["_law_hand_here"]
theorem sc_l_numbers : FnScope nm_l_numbers ps_l_numbers (defScope s_l_numbers) := ⟨rfl, rfl, rfl, by decide +kernel, rfl, by decide +kernel, by decide +kernel⟩
abbrev s_law : Stmt := top 41
abbrev nm_law : List Str := ["_law_script", "_law_hand_here", "_law_coins", "_law_other", "_law_long", "_law_none", "_law_way", "_law_many", "_law_wrong", "_law_k", "_law_at", "_law_late", "_law_given"]
abbrev ps_law : List Str := ["_law_script"]
theorem sc_law : FnScope nm_law ps_law (defScope s_law) := ⟨rfl, rfl, rfl, by decide +kernel, rfl, by decide +kernel, by decide +kernel⟩
/-! ### what the top has written -/
structure Txt (K : PySem.W.Frag) (mg : Str → Option Value) (cBadPool : Addr) (cBadPeople : Addr) (cBadPerson : Addr) (cBadAmount : Addr) : Prop where
  d_is_number : Df K mg "is_number" s_is_number ps_is_number
  d_is_whole : Df K mg "is_whole" s_is_whole ps_is_whole
  d_is_row : Df K mg "is_row" s_is_row ps_is_row
  d_check_pool : Df K mg "check_pool" s_check_pool ps_check_pool
  d_check_people : DfD K mg "check_people" s_check_people ps_check_people [(V.int 1)]
  d_check_person : Df K mg "check_person" s_check_person ps_check_person
  d_check_amount : DfD K mg "check_amount" s_check_amount ps_check_amount [(V.int 0)]
  d_total_of : Df K mg "total_of" s_total_of ps_total_of
  d_counted_coins : Df K mg "counted_coins" s_counted_coins ps_counted_coins
  d_counted : Df K mg "counted" s_counted ps_counted
  d_l_mix : Df K mg "_law_mix" s_l_mix ps_l_mix
  d_l_hand : Df K mg "_law_hand" s_l_hand ps_l_hand
  d_l_draw : Df K mg "_law_draw" s_l_draw ps_l_draw
  d_l_big : Df K mg "_law_big" s_l_big ps_l_big
  d_l_whole : Df K mg "_law_whole" s_l_whole ps_l_whole
  d_l_lot_like : Df K mg "_law_lot_like" s_l_lot_like ps_l_lot_like
  d_l_row_like : Df K mg "_law_row_like" s_l_row_like ps_l_row_like
  d_l_serving : Df K mg "_law_serving" s_l_serving ps_l_serving
  d_l_pool : Df K mg "_law_pool" s_l_pool ps_l_pool
  d_l_great : Df K mg "_law_great" s_l_great ps_l_great
  d_l_turned : Df K mg "_law_turned" s_l_turned ps_l_turned
  d_l_odd : Df K mg "_law_odd" s_l_odd ps_l_odd
  d_l_odd_coin : Df K mg "_law_odd_coin" s_l_odd_coin ps_l_odd_coin
  d_l_refused : Df K mg "_law_refused" s_l_refused ps_l_refused
  d_l_people : Df K mg "_law_people" s_l_people ps_l_people
  d_l_person : Df K mg "_law_person" s_l_person ps_l_person
  d_l_amount : Df K mg "_law_amount" s_l_amount ps_l_amount
  d_l_good : Df K mg "_law_good" s_l_good ps_l_good
  d_l_numbers : Df K mg "_law_numbers" s_l_numbers ps_l_numbers
  d_law : Df K mg "law" s_law ps_law
  c_MOST_COINS : ∃ u, mg "MOST_COINS" = some u ∧ RelV (.int 12) u
  c_GREATEST_COIN : ∃ u, mg "GREATEST_COIN" = some u ∧ RelV (.int 1000000000) u
  c_MOST_PEOPLE : ∃ u, mg "MOST_PEOPLE" = some u ∧ RelV (.int 5) u
  c_GREATEST_AMOUNT : ∃ u, mg "GREATEST_AMOUNT" = some u ∧ RelV (.int 12000000000) u
  n_isinstance : mg "isinstance" = none
  n_int : mg "int" = none
  n_bool : mg "bool" = none
  n_list : mg "list" = none
  n_tuple : mg "tuple" = none
  n_len : mg "len" = none
  n_enumerate : mg "enumerate" = none
  n_sorted : mg "sorted" = none
  n_sum : mg "sum" = none
  n_set : mg "set" = none
  n_abs : mg "abs" = none
  n_range : mg "range" = none
  n_all : mg "all" = none
  n_max : mg "max" = none
  n_min : mg "min" = none
  y_BadPool : XI K mg "BadPool" "BadPool.__init__" s_i_BadPool ps_i_BadPool cBadPool
  x_BadPool : XfC K cBadPool
  f_BadPool_place : PySem.W.findIn K (.ref cBadPool) "place" = some none
  f_BadPool_what : PySem.W.findIn K (.ref cBadPool) "what" = some none
  y_BadPeople : XP K mg "BadPeople" cBadPeople
  y_BadPerson : XP K mg "BadPerson" cBadPerson
  y_BadAmount : XP K mg "BadAmount" cBadAmount
  m_BadPool_BadPool : PySem.W.exmOne K (.ref cBadPool) (.ref cBadPool) = some true
  m_BadPool_BadPeople : PySem.W.exmOne K (.ref cBadPool) (.ref cBadPeople) = some false
  m_BadPool_BadPerson : PySem.W.exmOne K (.ref cBadPool) (.ref cBadPerson) = some false
  m_BadPool_BadAmount : PySem.W.exmOne K (.ref cBadPool) (.ref cBadAmount) = some false
  m_BadPeople_BadPool : PySem.W.exmOne K (.ref cBadPeople) (.ref cBadPool) = some false
  m_BadPeople_BadPeople : PySem.W.exmOne K (.ref cBadPeople) (.ref cBadPeople) = some true
  m_BadPeople_BadPerson : PySem.W.exmOne K (.ref cBadPeople) (.ref cBadPerson) = some false
  m_BadPeople_BadAmount : PySem.W.exmOne K (.ref cBadPeople) (.ref cBadAmount) = some false
  m_BadPerson_BadPool : PySem.W.exmOne K (.ref cBadPerson) (.ref cBadPool) = some false
  m_BadPerson_BadPeople : PySem.W.exmOne K (.ref cBadPerson) (.ref cBadPeople) = some false
  m_BadPerson_BadPerson : PySem.W.exmOne K (.ref cBadPerson) (.ref cBadPerson) = some true
  m_BadPerson_BadAmount : PySem.W.exmOne K (.ref cBadPerson) (.ref cBadAmount) = some false
  m_BadAmount_BadPool : PySem.W.exmOne K (.ref cBadAmount) (.ref cBadPool) = some false
  m_BadAmount_BadPeople : PySem.W.exmOne K (.ref cBadAmount) (.ref cBadPeople) = some false
  m_BadAmount_BadPerson : PySem.W.exmOne K (.ref cBadAmount) (.ref cBadPerson) = some false
  m_BadAmount_BadAmount : PySem.W.exmOne K (.ref cBadAmount) (.ref cBadAmount) = some true
end My
set_option Elab.async false
set_option linter.all false
set_option maxRecDepth 100000
set_option maxHeartbeats 4000000
namespace My
open PySem PySem.Spec PyProof.Rows L2 Gen
section
variable {P : Program} {w : World} {K : PySem.W.Frag} {mg : Str → Option Value} {base : Heap} { cBadPool cBadPeople cBadPerson cBadAmount : Addr}
theorem ok_i_BadPool {f : Addr} {fd : FuncData} (F : Fun K "__init__" "BadPool.__init__" s_i_BadPool f fd) (T : Txt K mg cBadPool cBadPeople cBadPerson cBadAmount) : FnOk P w K mg base CX0 1 f fd ps_i_BadPool (spI2 K cBadPool "place" "what") := by
  refine F.ok (k := 0) sc_i_BadPool (fun vs H Q E h => by obtain ⟨_, _, _, rfl, _⟩ := h; rfl) (fun cdv A outer s H vs Q E hr h => ?_)
  refine ⟨_, (pss_cons (ps_ost (pv 0) (pv 1))
      (pss_one (ps_ost (pv 0) (pv 2)))), ?_⟩
  obtain ⟨a, v, u, rfl, ha, ox, hn, hm, q⟩ := h
  refine ⟨_, rfl, _, rfl, a, _, rfl, ox, hn, .inl ⟨ha, fun dx hx ne => ⟨_, rfl, _, rfl, a, _, rfl, ox, hm, .inr ⟨dx, [("place", v)], upd_same, by rw [upd_ne ne, upd_same], show 1 ≤ 900 by decide, q dx hx ne⟩⟩⟩⟩
def sp_is_number (_ : PySem.W.Frag) : Sp := fun vs H Q _ => ∃ x : V, vs = [x] ∧ Plain H x ∧ Q (.bl (isI x)) H
theorem len_is_number {vs H Q E} (h : sp_is_number K vs H Q E) : vs.length = 1 := by
  obtain ⟨_, rfl, _⟩ := h; rfl
theorem ok_is_number {f : Addr} {fd : FuncData} (F : Fun K "is_number" "is_number" s_is_number f fd) (T : Txt K mg cBadPool cBadPeople cBadPerson cBadAmount) : FnOk P w K mg base CX0 1 f fd ps_is_number (sp_is_number K) := by
  refine F.ok (k := 0) sc_is_number (fun vs H Q E h => len_is_number h) (fun cdv A outer s H vs Q E hr h => ?_)
  refine ⟨_, (pss_one (ps_ret (pe_and (pe_callB call_isi (by rfl) T.n_isinstance (by decide +kernel) (pa_cons (pv 0) (pa_cons (pe_bltn (v := .ty "int") (by rfl) T.n_int (by decide +kernel) rfl) pa_nil))) (pe_one (pe_not (pe_callB call_isi (by rfl) T.n_isinstance (by decide +kernel) (pa_cons (pv 0) (pa_cons (pe_bltn (v := .ty "bool") (by rfl) T.n_bool (by decide +kernel) rfl) pa_nil)))))))), ?_⟩
  obtain ⟨x, rfl, hp, q⟩ := h
  simp only [tSeq, tAsg, tDrop, tRet, tRetN, tIfS, tNext, tTest, tB, tNot, tAnd, tOr, tChain, tIf, tAndV, tOrV, tNotV, tOp, tUn, tCB, tCons, tNil, tVar, tC, tCall, tCallS, gName, rI, rI0, rU, rEq, rNe, tTup, tLst, gSub, rSetL, rIxL, rIxT, L2.start, List.map_cons, List.map_nil, List.length_cons, List.length_nil, Nat.reduceAdd, Nat.reduceSub, List.replicate_succ, List.replicate_zero, List.getElem?_cons_zero, List.getElem?_cons_succ, List.set_cons_zero, List.set_cons_succ, Option.some.injEq, exists_eq_left', exists_eq_left, exists_and_left, V.int.injEq, V.bl.injEq, V.ref.injEq, V.str.injEq, List.cons.injEq, and_true, true_and, List.nil_append, List.cons_append, List.append_nil, reduceCtorEq, false_and, exists_false, or_false, false_or, and_false, Int.reduceNeg, decide_eq_true_eq, Bool.not_eq_true', decide_eq_false_iff_not, and_assoc, tYes, ↓reduceIte, wipe, Bool.false_eq_true, Bool.true_eq_false, cxOf, false_implies, true_implies, implies_true, forall_const]
  refine isi_int hp ?_
  cases x with
  | int i => exact ⟨true, rfl, iteT (isi_bool hp ⟨false, rfl, q⟩)⟩
  | bl i => exact ⟨true, rfl, iteT (isi_bool hp ⟨true, rfl, q⟩)⟩
  | _ => exact ⟨false, rfl, iteF q⟩
def sp_is_whole (_ : PySem.W.Frag) : Sp := fun vs H Q _ => ∃ (x : V) (lo hi : Int), vs = [x, .int lo, .int hi] ∧ Plain H x ∧ Q (.bl (whole x lo hi)) H
theorem len_is_whole {vs H Q E} (h : sp_is_whole K vs H Q E) : vs.length = 3 := by
  obtain ⟨_, _, _, rfl, _⟩ := h; rfl
theorem ok_is_whole {f : Addr} {fd : FuncData} (F : Fun K "is_whole" "is_whole" s_is_whole f fd) (T : Txt K mg cBadPool cBadPeople cBadPerson cBadAmount) : FnOk P w K mg base CX0 2 f fd ps_is_whole (sp_is_whole K) := by
  obtain ⟨f_is_number, fd_is_number, F_is_number, m_is_number, b_is_number⟩ := T.d_is_number
  have G_is_number : FnOk P w K mg base CX0 1 f_is_number fd_is_number ps_is_number (sp_is_number K) := ok_is_number F_is_number T
  refine F.ok (k := 1) sc_is_whole (fun vs H Q E h => len_is_whole h) (fun cdv A outer s H vs Q E hr h => ?_)
  refine ⟨_, (pss_one (ps_ret (pe_and (pe_call G_is_number (hr.mono (by decide)) (by rfl) m_is_number F_is_number.kp b_is_number .nil pass0 (pa_cons (pv 0) pa_nil)) (pe_one (pe_chain op_le op_le (pv 1) (pv 0) (pv 2)))))), ?_⟩
  obtain ⟨x, lo, hi, rfl, hp, q⟩ := h
  simp only [tSeq, tAsg, tDrop, tRet, tRetN, tIfS, tNext, tTest, tB, tNot, tAnd, tOr, tChain, tIf, tAndV, tOrV, tNotV, tOp, tUn, tCB, tCons, tNil, tVar, tC, tCall, tCallS, gName, rI, rI0, rU, rEq, rNe, tTup, tLst, gSub, rSetL, rIxL, rIxT, L2.start, List.map_cons, List.map_nil, List.length_cons, List.length_nil, Nat.reduceAdd, Nat.reduceSub, List.replicate_succ, List.replicate_zero, List.getElem?_cons_zero, List.getElem?_cons_succ, List.set_cons_zero, List.set_cons_succ, Option.some.injEq, exists_eq_left', exists_eq_left, exists_and_left, V.int.injEq, V.bl.injEq, V.ref.injEq, V.str.injEq, List.cons.injEq, and_true, true_and, List.nil_append, List.cons_append, List.append_nil, reduceCtorEq, false_and, exists_false, or_false, false_or, and_false, Int.reduceNeg, decide_eq_true_eq, Bool.not_eq_true', decide_eq_false_iff_not, and_assoc, tYes, ↓reduceIte, wipe, Bool.false_eq_true, Bool.true_eq_false, cxOf, false_implies, true_implies, implies_true, forall_const, sp_is_number]
  refine ⟨hp, ?_⟩
  cases x with
  | int i =>
    refine iteT ?_
    simp only [tSeq, tAsg, tDrop, tRet, tRetN, tIfS, tNext, tTest, tB, tNot, tAnd, tOr, tChain, tIf, tAndV, tOrV, tNotV, tOp, tUn, tCB, tCons, tNil, tVar, tC, tCall, tCallS, gName, rI, rI0, rU, rEq, rNe, tTup, tLst, gSub, rSetL, rIxL, rIxT, L2.start, List.map_cons, List.map_nil, List.length_cons, List.length_nil, Nat.reduceAdd, Nat.reduceSub, List.replicate_succ, List.replicate_zero, List.getElem?_cons_zero, List.getElem?_cons_succ, List.set_cons_zero, List.set_cons_succ, Option.some.injEq, exists_eq_left', exists_eq_left, exists_and_left, V.int.injEq, V.bl.injEq, V.ref.injEq, V.str.injEq, List.cons.injEq, and_true, true_and, List.nil_append, List.cons_append, List.append_nil, reduceCtorEq, false_and, exists_false, or_false, false_or, and_false, Int.reduceNeg, decide_eq_true_eq, Bool.not_eq_true', decide_eq_false_iff_not, and_assoc, tYes, ↓reduceIte, wipe, Bool.false_eq_true, Bool.true_eq_false, cxOf, false_implies, true_implies, implies_true, forall_const]
    by_cases c : lo ≤ i
    · rw [if_pos c]
      have e : whole (.int i) lo hi = decide (i ≤ hi) := by show (decide (lo ≤ i) && decide (i ≤ hi)) = _; rw [decide_eq_true c, Bool.true_and]
      rw [e] at q
      exact q
    · rw [if_neg c]
      have e : whole (.int i) lo hi = false := by show (decide (lo ≤ i) && decide (i ≤ hi)) = _; rw [decide_eq_false c, Bool.false_and]
      rw [e] at q
      exact q
  | _ => exact iteF q
def Row (H : Hp) (a : Addr) (xs : List V) : Prop := H a = some (.tup xs) ∨ H a = some (.lst xs)
theorem Row.sq {H : Hp} {a : Addr} {xs : List V} (h : Row H a xs) : SqL K H a xs ∨ SqT K H a xs := h.elim (fun e => .inr (SqT.of e)) fun e => .inl (SqL.of e)
theorem Row.same {H H' : Hp} {a : Addr} {xs : List V} (h : Row H a xs) (s : Same H H') : Row H' a xs := h.elim (fun e => .inl (s _ _ e)) fun e => .inr (s _ _ e)
theorem Row.one {H : Hp} {a : Addr} {xs ys : List V} (h : Row H a xs) (h2 : Row H a ys) : xs = ys := by
  rcases h with h | h <;> rcases h2 with h2 | h2 <;> (rw [h] at h2; cases h2) <;> rfl
theorem isiT_yes {H : Hp} {a p : Addr} {xs : List V} {Q : VK} (h : Row H a xs) (hT : H p = some (.tup [V.ty "list", V.ty "tuple"])) (q : Q (.bl true) H) : rIsiT K [.ref a, .ref p] H Q := by
  rcases h with h | h
  · exact ⟨_, _, _, _, _, true, rfl, hT, .cons (.ty _) (.cons (.ty _) .nil), .base (.tup h), kitAny_cons (b := false) (kit_ty (by decide +kernel)) (fun _ => kitAny_cons (b := true) (kit_ty (by decide +kernel)) (fun z => by cases z) fun _ => rfl) (fun z => by cases z), q⟩
  · exact ⟨_, _, _, _, _, true, rfl, hT, .cons (.ty _) (.cons (.ty _) .nil), .base (.lst h), kitAny_cons (b := true) (kit_ty (by decide +kernel)) (fun z => by cases z) (fun _ => rfl), q⟩
theorem isiT_no {H : Hp} {x : V} {p : Addr} {Q : VK} (hp : Plain H x) (n : ∀ a xs, x = .ref a → ¬ Row H a xs) (hT : H p = some (.tup [V.ty "list", V.ty "tuple"])) (q : Q (.bl false) H) : rIsiT K [x, .ref p] H Q := by
  have mk : ∀ {t : String}, TyX K H x (.type t) → kitB t "list" = some false → kitB t "tuple" = some false → rIsiT K [x, .ref p] H Q := fun ty h1 h2 =>
    ⟨_, _, _, _, _, false, rfl, hT, .cons (.ty _) (.cons (.ty _) .nil), ty, kitAny_cons (b := false) (kit_ty h1) (fun _ => kitAny_cons (b := false) (kit_ty h2) (fun _ => rfl) (fun z => by cases z)) (fun z => by cases z), q⟩
  cases x with
  | non => exact mk (.base .non) (by decide +kernel) (by decide +kernel)
  | bl b => exact mk (.base (.bl b)) (by decide +kernel) (by decide +kernel)
  | int i => exact mk (.base (.int i)) (by decide +kernel) (by decide +kernel)
  | str z => exact mk (.base (.str z)) (by decide +kernel) (by decide +kernel)
  | ref a =>
    rcases hp with ⟨xs, h⟩ | ⟨xs, h⟩ | ⟨xs, h⟩
    · exact absurd (.inl h) (n a xs rfl)
    · exact absurd (.inr h) (n a xs rfl)
    · exact mk (.base (.dK h)) (by decide +kernel) (by decide +kernel)
  | byt _ => exact hp.elim
  | flt _ => exact hp.elim
  | ty _ => exact hp.elim
def sp_is_row (_ : PySem.W.Frag) : Sp := fun vs H Q _ => ∃ (x : V) (lo hi : Int), vs = [x, .int lo, .int hi] ∧ Plain H x ∧
  ((∃ a xs, x = .ref a ∧ Row H a xs ∧ ∀ H', Same H H' → Q (.bl (decide (lo ≤ (xs.length : Int)) && decide ((xs.length : Int) ≤ hi))) H') ∨ ((∀ a xs, x = .ref a → ¬ Row H a xs) ∧ ∀ H', Same H H' → Q (.bl false) H'))
theorem len_is_row {vs H Q E} (h : sp_is_row K vs H Q E) : vs.length = 3 := by
  obtain ⟨_, _, _, rfl, _⟩ := h; rfl
theorem ok_is_row {f : Addr} {fd : FuncData} (F : Fun K "is_row" "is_row" s_is_row f fd) (T : Txt K mg cBadPool cBadPeople cBadPerson cBadAmount) : FnOk P w K mg base CX0 1 f fd ps_is_row (sp_is_row K) := by
  refine F.ok (k := 0) sc_is_row (fun vs H Q E h => len_is_row h) (fun cdv A outer s H vs Q E hr h => ?_)
  refine ⟨_, (pss_one (ps_ret (pe_and (pe_callB call_isiT (by rfl) T.n_isinstance (by decide +kernel) (pa_cons (pv 0) (pa_cons (pe_tup (pa_cons (pe_bltn (v := .ty "list") (by rfl) T.n_list (by decide +kernel) rfl) (pa_cons (pe_bltn (v := .ty "tuple") (by rfl) T.n_tuple (by decide +kernel) rfl) pa_nil))) pa_nil))) (pe_one (pe_chain op_le op_le (pv 1) (pe_callB call_len_seq (by rfl) T.n_len (by decide +kernel) (pa_cons (pv 0) pa_nil)) (pv 2)))))), ?_⟩
  obtain ⟨x, lo, hi, rfl, hp, k⟩ := h
  simp only [tSeq, tAsg, tDrop, tRet, tRetN, tIfS, tNext, tTest, tB, tNot, tAnd, tOr, tChain, tIf, tAndV, tOrV, tNotV, tOp, tUn, tCB, tCons, tNil, tVar, tC, tCall, tCallS, gName, rI, rI0, rU, rEq, rNe, tTup, tLst, gSub, rSetL, rIxL, rIxT, L2.start, List.map_cons, List.map_nil, List.length_cons, List.length_nil, Nat.reduceAdd, Nat.reduceSub, List.replicate_succ, List.replicate_zero, List.getElem?_cons_zero, List.getElem?_cons_succ, List.set_cons_zero, List.set_cons_succ, Option.some.injEq, exists_eq_left', exists_eq_left, exists_and_left, V.int.injEq, V.bl.injEq, V.ref.injEq, V.str.injEq, List.cons.injEq, and_true, true_and, List.nil_append, List.cons_append, List.append_nil, reduceCtorEq, false_and, exists_false, or_false, false_or, and_false, Int.reduceNeg, decide_eq_true_eq, Bool.not_eq_true', decide_eq_false_iff_not, and_assoc, tYes, ↓reduceIte, wipe, Bool.false_eq_true, Bool.true_eq_false, cxOf, false_implies, true_implies, implies_true, forall_const]
  refine ⟨by decide, fun p hq => ?_⟩
  have s := Same.new (o := HO.tup [V.ty "list", V.ty "tuple"]) hq
  have eT : upd H p (HO.tup [V.ty "list", V.ty "tuple"]) p = some (HO.tup [V.ty "list", V.ty "tuple"]) := upd_same
  generalize upd H p (HO.tup [V.ty "list", V.ty "tuple"]) = H1 at s eT ⊢
  rcases k with ⟨a, xs, rfl, hr, k⟩ | ⟨n, k⟩
  · have hr1 := hr.same s
    refine isiT_yes hr1 eT ⟨true, rfl, ?_⟩
    rw [if_pos rfl]
    refine ⟨a, rfl, xs, hr1.sq, ?_⟩
    by_cases c : lo ≤ (xs.length : Int)
    · rw [if_pos c]
      have e := k H1 s
      rw [decide_eq_true c, Bool.true_and] at e
      exact e
    · rw [if_neg c]
      have e := k H1 s
      rw [decide_eq_false c, Bool.false_and] at e
      exact e
  · refine isiT_no (hp.same s) (fun a xs e r => ?_) eT ⟨false, rfl, ?_⟩
    · subst e
      rcases hp with ⟨ys, h⟩ | ⟨ys, h⟩ | ⟨ys, h⟩
      · exact n a ys rfl (.inl h)
      · exact n a ys rfl (.inr h)
      · rcases r with r | r <;> (rw [s _ _ h] at r; cases r)
    · rw [if_neg (fun z => by cases z)]
      exact k H1 s
/-- what is handed in as a pool: plain, and what it holds is plain -/
def Arg (H : Hp) (x : V) : Prop := Plain H x ∧ ∀ a xs, x = .ref a → Row H a xs → ∀ y, y ∈ xs → Plain H y
/-- whether it is a row of at most twelve things -/
def FewRow (H : Hp) (x : V) : Prop := ∃ a xs, x = .ref a ∧ Row H a xs ∧ xs.length ≤ 12
def bad2 (i : Int) (w : Str) : HO := .xd [("what", .str w), ("place", .int i)]
theorem ints_of {m : Int} : ∀ {xs : List V}, (∀ z, z ∈ xs → whole z 1 m = true) → ∃ ns : List Int, xs = ns.map V.int ∧ ∀ n, n ∈ ns → 1 ≤ n ∧ n ≤ m
  | [], _ => ⟨[], rfl, fun _ h => absurd h List.not_mem_nil⟩
  | x :: xs, h => by
    obtain ⟨i, rfl, i0, i1⟩ := whole_of (h x List.mem_cons_self)
    obtain ⟨ns, rfl, b⟩ := ints_of fun z hz => h z (List.mem_cons_of_mem _ hz)
    refine ⟨i :: ns, rfl, fun n hn => ?_⟩
    rcases List.mem_cons.mp hn with rfl | hn
    · exact ⟨i0, i1⟩
    · exact b n hn
def sp_check_pool (_ : PySem.W.Frag) (cB : Addr) : Sp := fun vs H Q E => ∃ x : V, vs = [x] ∧ Arg H x ∧
  (¬ FewRow H x → ∀ H' d, Same H H' → H' d = none → E (.ref cB) (some d) (upd H' d (bad2 0 "many"))) ∧
  (∀ a xs (i : Nat) y, x = .ref a → Row H a xs → xs.length ≤ 12 → (∀ j z, j < i → xs[j]? = some z → whole z 1 1000000000 = true) → xs[i]? = some y → whole y 1 1000000000 = false → ∀ H' d, Same H H' → H' d = none → E (.ref cB) (some d) (upd H' d (bad2 i "coin"))) ∧
  ∀ (a : Addr) (ns : List Int), x = .ref a → Row H a (ns.map V.int) → ns.length ≤ 12 → (∀ n, n ∈ ns → 1 ≤ n ∧ n ≤ 1000000000) → ∀ (H' : Hp) (b : Addr) (ms : List Int), Same H H' → TupN H' b (ms.map V.int) → ms.Perm ns → ms.Pairwise (· ≤ ·) → Q (.ref b) H'
theorem len_check_pool {vs H Q E} (h : sp_check_pool K cBadPool vs H Q E) : vs.length = 1 := by
  obtain ⟨_, rfl, _⟩ := h; rfl
theorem ok_check_pool {f : Addr} {fd : FuncData} (F : Fun K "check_pool" "check_pool" s_check_pool f fd) (T : Txt K mg cBadPool cBadPeople cBadPerson cBadAmount) : FnOk P w K mg base (L2.CX P w) 3 f fd ps_check_pool (sp_check_pool K cBadPool) := by
  obtain ⟨f_is_row, fd_is_row, F_is_row, m_is_row, b_is_row⟩ := T.d_is_row
  have G_is_row : FnOk P w K mg base CX0 1 f_is_row fd_is_row ps_is_row (sp_is_row K) := ok_is_row F_is_row T
  obtain ⟨f_is_whole, fd_is_whole, F_is_whole, m_is_whole, b_is_whole⟩ := T.d_is_whole
  have G_is_whole : FnOk P w K mg base CX0 2 f_is_whole fd_is_whole ps_is_whole (sp_is_whole K) := ok_is_whole F_is_whole T
  obtain ⟨f_i_BadPool, fd_i_BadPool, F_i_BadPool, b_i_BadPool, iC_BadPool, tI_BadPool⟩ := T.y_BadPool.ini
  have G_i_BadPool : FnOk P w K mg base CX0 1 f_i_BadPool fd_i_BadPool ps_i_BadPool (spI2 K cBadPool "place" "what") := ok_i_BadPool F_i_BadPool T
  obtain ⟨u_MOST_COINS, c_MOST_COINS, r_MOST_COINS⟩ := T.c_MOST_COINS
  obtain ⟨u_GREATEST_COIN, c_GREATEST_COIN, r_GREATEST_COIN⟩ := T.c_GREATEST_COIN
  refine F.okX (k := 2) sc_check_pool (fun vs H Q E h => len_check_pool h) (fun cdv A outer s H vs Q E hr h => ?_)
  refine ⟨_, (pss_cons (ps_if (pt_not (pt_val (pe_call G_is_row (hr.mono (by decide)) (by rfl) m_is_row F_is_row.kp b_is_row .nil pass0 (pa_cons (pv 0) (pa_cons pe_int (pa_cons (pe_glob rfl c_MOST_COINS r_MOST_COINS) pa_nil)))))) (pss_one (ps_raise rfl (takes_of rfl rfl rfl rfl) (pmk_oex T.y_BadPool.ox iC_BadPool tI_BadPool G_i_BadPool (hr.mono (by decide)) b_i_BadPool .nil pass0 (by rfl) T.y_BadPool.gC (pa_cons pe_int (pa_cons pe_str pa_nil))))) pss_nil)
      (pss_cons (ps_for (passes_of rfl) rfl (pi_enumE (by rfl) T.n_enumerate (pa_cons (pv 0) pa_nil)) (pg_tup rfl (pgs_cons (pg_name (i := 1) sc_check_pool.nd rfl (Or.inl rfl)) (pgs_cons (pg_name (i := 2) sc_check_pool.nd rfl (Or.inl rfl)) pgs_nil)))
      (pss_one (ps_if (pt_not (pt_val (pe_call G_is_whole (hr.mono (by decide)) (by rfl) m_is_whole F_is_whole.kp b_is_whole .nil pass0 (pa_cons (pv 2) (pa_cons pe_int (pa_cons (pe_glob rfl c_GREATEST_COIN r_GREATEST_COIN) pa_nil)))))) (pss_one (ps_raise rfl (takes_of rfl rfl rfl rfl) (pmk_oex T.y_BadPool.ox iC_BadPool tI_BadPool G_i_BadPool (hr.mono (by decide)) b_i_BadPool .nil pass0 (by rfl) T.y_BadPool.gC (pa_cons (pv 1) (pa_cons pe_str pa_nil))))) pss_nil)))
      (pss_one (ps_ret (pe_callTy call_tuple_ofN (by rfl) T.n_tuple (by decide +kernel) (pa_cons (pe_callB cr_sortedE (by rfl) T.n_sorted (by decide +kernel) (pa_cons (pv 0) pa_nil)) pa_nil)))))), ?_⟩
  obtain ⟨x, rfl, hp, q1, q2, q3⟩ := h
  simp only [tSeq, tAsg, tDrop, tRet, tRetN, tIfS, tNext, tTest, tB, tNot, tAnd, tOr, tChain, tIf, tAndV, tOrV, tNotV, tOp, tUn, tCB, tCons, tNil, tVar, tC, tCall, tCallS, gName, rI, rI0, rU, rEq, rNe, tTup, tLst, gSub, rSetL, rIxL, rIxT, L2.start, List.map_cons, List.map_nil, List.length_cons, List.length_nil, Nat.reduceAdd, Nat.reduceSub, List.replicate_succ, List.replicate_zero, List.getElem?_cons_zero, List.getElem?_cons_succ, List.set_cons_zero, List.set_cons_succ, Option.some.injEq, exists_eq_left', exists_eq_left, exists_and_left, V.int.injEq, V.bl.injEq, V.ref.injEq, V.str.injEq, List.cons.injEq, and_true, true_and, List.nil_append, List.cons_append, List.append_nil, reduceCtorEq, false_and, exists_false, or_false, false_or, and_false, Int.reduceNeg, decide_eq_true_eq, Bool.not_eq_true', decide_eq_false_iff_not, and_assoc, tYes, ↓reduceIte, wipe, Bool.false_eq_true, Bool.true_eq_false, cxOf, false_implies, true_implies, implies_true, forall_const, sp_is_row]
  refine ⟨hp.1, ?_⟩
  have T0 := T
  by_cases c : ∃ a xs, x = .ref a ∧ Row H a xs
  · obtain ⟨a, xs, rfl, hr⟩ := c
    refine .inl ⟨a, rfl, xs, hr, fun H1 s => ?_⟩
    by_cases hl : xs.length ≤ 12
    case neg =>
      have e : (decide (0 ≤ (xs.length : Int)) && decide ((xs.length : Int) ≤ 12)) = false := by rw [decide_eq_false (show ¬ (xs.length : Int) ≤ 12 by omega), Bool.and_false]
      rw [if_pos e]
      refine raise2 T0.y_BadPool.ox T0.f_BadPool_place T0.f_BadPool_what fun d hd => q1 (fun f => ?_) H1 d s hd
      obtain ⟨b, ys, e1, e2, e3⟩ := f
      cases e1
      rw [Row.one hr e2] at hl
      exact hl e3
    have e : ¬ (decide (0 ≤ (xs.length : Int)) && decide ((xs.length : Int) ≤ 12)) = false := by rw [decide_eq_true (show (0 : Int) ≤ (xs.length : Int) by omega), decide_eq_true (show (xs.length : Int) ≤ 12 by omega)]; decide
    rw [if_neg e]
    refine ⟨_, rfl, a, xs, rfl, ?_⟩
    rcases hr.same s with e1 | e1
    · refine .inr ⟨SqT.of e1, for_enumT (K := K) (a := a) (xs := xs) (fun i z h => ∃ v u, z = [some (.ref a), v, u] ∧ Same H1 h ∧ ∀ j z, j < i → xs[j]? = some z → whole z 1 1000000000 = true) ⟨none, none, rfl, Same.refl H1, fun j _ hj => absurd hj (Nat.not_lt_zero j)⟩ (fun i z h _ ⟨_, _, _, s2, _⟩ => SqT.of (s2 _ _ e1)) ?_ ?_⟩
      · rintro i y T z h hi hT ⟨v, u, rfl, s2, ok⟩
        have sh := s.trans s2
        refine ⟨T, _, rfl, SqT.of upd_same, rfl, _, _, rfl, _, _, rfl, rfl, ?_⟩
        simp only [tSeq, tAsg, tDrop, tRet, tRetN, tIfS, tNext, tTest, tB, tNot, tAnd, tOr, tChain, tIf, tAndV, tOrV, tNotV, tOp, tUn, tCB, tCons, tNil, tVar, tC, tCall, tCallS, gName, rI, rI0, rU, rEq, rNe, tTup, tLst, gSub, rSetL, rIxL, rIxT, L2.start, List.map_cons, List.map_nil, List.length_cons, List.length_nil, Nat.reduceAdd, Nat.reduceSub, List.replicate_succ, List.replicate_zero, List.getElem?_cons_zero, List.getElem?_cons_succ, List.set_cons_zero, List.set_cons_succ, Option.some.injEq, exists_eq_left', exists_eq_left, exists_and_left, V.int.injEq, V.bl.injEq, V.ref.injEq, V.str.injEq, List.cons.injEq, and_true, true_and, List.nil_append, List.cons_append, List.append_nil, reduceCtorEq, false_and, exists_false, or_false, false_or, and_false, Int.reduceNeg, decide_eq_true_eq, Bool.not_eq_true', decide_eq_false_iff_not, and_assoc, tYes, ↓reduceIte, wipe, Bool.false_eq_true, Bool.true_eq_false, cxOf, false_implies, true_implies, implies_true, forall_const, sp_is_whole]
        refine ⟨((hp.2 a xs rfl hr y (List.mem_of_getElem? hi)).same sh).same (Same.new hT), ?_⟩
        split
        · rename_i w0
          exact ⟨_, rfl, raise2 T0.y_BadPool.ox T0.f_BadPool_place T0.f_BadPool_what fun d hd => q2 a xs i y rfl hr hl ok hi w0 _ d (sh.trans (Same.new hT)) hd⟩
        · rename_i w1
          refine ⟨s2.trans (Same.new hT), fun j x hj hx => ?_⟩
          rcases Nat.lt_succ_iff_lt_or_eq.mp hj with g | g
          · exact ok j x g hx
          · rw [g, hi] at hx
            cases hx
            simpa using w1
      · rintro z h ⟨v, u, rfl, s2, ok⟩
        have sh := s.trans s2
        obtain ⟨ns, rfl, nb⟩ := ints_of (m := 1000000000) fun x hx => by
          obtain ⟨j, hj, ej⟩ := List.mem_iff_getElem.mp hx
          exact ok j x hj (by rw [List.getElem?_eq_getElem hj, ej])
        simp only [tSeq, tAsg, tDrop, tRet, tRetN, tIfS, tNext, tTest, tB, tNot, tAnd, tOr, tChain, tIf, tAndV, tOrV, tNotV, tOp, tUn, tCB, tCons, tNil, tVar, tC, tCall, tCallS, gName, rI, rI0, rU, rEq, rNe, tTup, tLst, gSub, rSetL, rIxL, rIxT, L2.start, List.map_cons, List.map_nil, List.length_cons, List.length_nil, Nat.reduceAdd, Nat.reduceSub, List.replicate_succ, List.replicate_zero, List.getElem?_cons_zero, List.getElem?_cons_succ, List.set_cons_zero, List.set_cons_succ, Option.some.injEq, exists_eq_left', exists_eq_left, exists_and_left, V.int.injEq, V.bl.injEq, V.ref.injEq, V.str.injEq, List.cons.injEq, and_true, true_and, List.nil_append, List.cons_append, List.append_nil, reduceCtorEq, false_and, exists_false, or_false, false_or, and_false, Int.reduceNeg, decide_eq_true_eq, Bool.not_eq_true', decide_eq_false_iff_not, and_assoc, tYes, ↓reduceIte, wipe, Bool.false_eq_true, Bool.true_eq_false, cxOf, false_implies, true_implies, implies_true, forall_const, rSortedE]
        refine ⟨ns, (hr.same sh).sq, fun ms b p1 p2 hb => ⟨_, SqL.of upd_same, fun l o hl2 o1 o2 => ?_⟩⟩
        exact q3 a ns rfl hr (by rw [List.length_map] at hl; exact hl) nb _ l ms (sh.trans ((Same.new hb).trans (Same.new hl2))) (TupN.at o1 o2) p1 p2
    · refine .inl ⟨SqL.of e1, for_enum (K := K) (a := a) (xs := xs) (fun i z h => ∃ v u, z = [some (.ref a), v, u] ∧ Same H1 h ∧ ∀ j z, j < i → xs[j]? = some z → whole z 1 1000000000 = true) ⟨none, none, rfl, Same.refl H1, fun j _ hj => absurd hj (Nat.not_lt_zero j)⟩ (fun i z h _ ⟨_, _, _, s2, _⟩ => SqL.of (s2 _ _ e1)) ?_ ?_⟩
      · rintro i y T z h hi hT ⟨v, u, rfl, s2, ok⟩
        have sh := s.trans s2
        refine ⟨T, _, rfl, SqT.of upd_same, rfl, _, _, rfl, _, _, rfl, rfl, ?_⟩
        simp only [tSeq, tAsg, tDrop, tRet, tRetN, tIfS, tNext, tTest, tB, tNot, tAnd, tOr, tChain, tIf, tAndV, tOrV, tNotV, tOp, tUn, tCB, tCons, tNil, tVar, tC, tCall, tCallS, gName, rI, rI0, rU, rEq, rNe, tTup, tLst, gSub, rSetL, rIxL, rIxT, L2.start, List.map_cons, List.map_nil, List.length_cons, List.length_nil, Nat.reduceAdd, Nat.reduceSub, List.replicate_succ, List.replicate_zero, List.getElem?_cons_zero, List.getElem?_cons_succ, List.set_cons_zero, List.set_cons_succ, Option.some.injEq, exists_eq_left', exists_eq_left, exists_and_left, V.int.injEq, V.bl.injEq, V.ref.injEq, V.str.injEq, List.cons.injEq, and_true, true_and, List.nil_append, List.cons_append, List.append_nil, reduceCtorEq, false_and, exists_false, or_false, false_or, and_false, Int.reduceNeg, decide_eq_true_eq, Bool.not_eq_true', decide_eq_false_iff_not, and_assoc, tYes, ↓reduceIte, wipe, Bool.false_eq_true, Bool.true_eq_false, cxOf, false_implies, true_implies, implies_true, forall_const, sp_is_whole]
        refine ⟨((hp.2 a xs rfl hr y (List.mem_of_getElem? hi)).same sh).same (Same.new hT), ?_⟩
        split
        · rename_i w0
          exact ⟨_, rfl, raise2 T0.y_BadPool.ox T0.f_BadPool_place T0.f_BadPool_what fun d hd => q2 a xs i y rfl hr hl ok hi w0 _ d (sh.trans (Same.new hT)) hd⟩
        · rename_i w1
          refine ⟨s2.trans (Same.new hT), fun j x hj hx => ?_⟩
          rcases Nat.lt_succ_iff_lt_or_eq.mp hj with g | g
          · exact ok j x g hx
          · rw [g, hi] at hx
            cases hx
            simpa using w1
      · rintro z h ⟨v, u, rfl, s2, ok⟩
        have sh := s.trans s2
        obtain ⟨ns, rfl, nb⟩ := ints_of (m := 1000000000) fun x hx => by
          obtain ⟨j, hj, ej⟩ := List.mem_iff_getElem.mp hx
          exact ok j x hj (by rw [List.getElem?_eq_getElem hj, ej])
        simp only [tSeq, tAsg, tDrop, tRet, tRetN, tIfS, tNext, tTest, tB, tNot, tAnd, tOr, tChain, tIf, tAndV, tOrV, tNotV, tOp, tUn, tCB, tCons, tNil, tVar, tC, tCall, tCallS, gName, rI, rI0, rU, rEq, rNe, tTup, tLst, gSub, rSetL, rIxL, rIxT, L2.start, List.map_cons, List.map_nil, List.length_cons, List.length_nil, Nat.reduceAdd, Nat.reduceSub, List.replicate_succ, List.replicate_zero, List.getElem?_cons_zero, List.getElem?_cons_succ, List.set_cons_zero, List.set_cons_succ, Option.some.injEq, exists_eq_left', exists_eq_left, exists_and_left, V.int.injEq, V.bl.injEq, V.ref.injEq, V.str.injEq, List.cons.injEq, and_true, true_and, List.nil_append, List.cons_append, List.append_nil, reduceCtorEq, false_and, exists_false, or_false, false_or, and_false, Int.reduceNeg, decide_eq_true_eq, Bool.not_eq_true', decide_eq_false_iff_not, and_assoc, tYes, ↓reduceIte, wipe, Bool.false_eq_true, Bool.true_eq_false, cxOf, false_implies, true_implies, implies_true, forall_const, rSortedE]
        refine ⟨ns, (hr.same sh).sq, fun ms b p1 p2 hb => ⟨_, SqL.of upd_same, fun l o hl2 o1 o2 => ?_⟩⟩
        exact q3 a ns rfl hr (by rw [List.length_map] at hl; exact hl) nb _ l ms (sh.trans ((Same.new hb).trans (Same.new hl2))) (TupN.at o1 o2) p1 p2
  · refine .inr ⟨fun a xs e1 e2 => c ⟨a, xs, e1, e2⟩, fun H1 s => raise2 T0.y_BadPool.ox T0.f_BadPool_place T0.f_BadPool_what fun d hd => q1 (fun f => ?_) H1 d s hd⟩
    obtain ⟨b, ys, e1, e2, _⟩ := f
    exact c ⟨b, ys, e1, e2⟩
end
end My
set_option Elab.async false
set_option linter.all false
set_option maxRecDepth 100000
set_option maxHeartbeats 4000000
namespace My
open PySem PySem.Spec PyProof.Rows L2 Gen
section
variable {P : Program} {w : World} {K : PySem.W.Frag} {mg : Str → Option Value} {base : Heap} { cBadPool cBadPeople cBadPerson cBadAmount : Addr}
abbrev sp_l_mix (_ : PySem.W.Frag) : Sp := spMix
theorem len_l_mix {vs H Q E} (h : sp_l_mix K vs H Q E) : vs.length = 2 := by
  obtain ⟨_, _, rfl, _⟩ := h; rfl
theorem ok_l_mix {f : Addr} {fd : FuncData} (F : Fun K "_law_mix" "_law_mix" s_l_mix f fd) (T : Txt K mg cBadPool cBadPeople cBadPerson cBadAmount) : FnOk P w K mg base CX0 1 f fd ps_l_mix (sp_l_mix K) := by
  refine F.ok (k := 0) sc_l_mix (fun vs H Q E h => len_l_mix h) (fun cdv A outer s H vs Q E hr h => ?_)
  refine ⟨_, (pss_cons (ps_set (i := 2) sc_l_mix.nd rfl (Or.inl rfl) (pe_op op_mod (pe_callTy call_int1 (by rfl) T.n_int (by decide +kernel) (pa_cons (pe_op op_add (pe_op op_add (pe_op op_mul (pv 0) pe_int) (pe_op op_mul (pv 1) pe_int)) pe_int) pa_nil)) pe_int))
      (pss_cons (ps_set (i := 3) sc_l_mix.nd rfl (Or.inl rfl) (pe_op op_mod (pe_callTy call_int1 (by rfl) T.n_int (by decide +kernel) (pa_cons (pe_op op_add (pe_op op_add (pe_op op_mul (pv 2) (pv 2)) (pe_op op_mul (pe_op op_fdivW (pv 2) pe_int) pe_int)) (pe_op op_mul (pv 1) pe_int)) pa_nil)) pe_int))
      (pss_one (ps_ret (pe_op op_fdivW (pe_op op_mod (pe_callTy call_int1 (by rfl) T.n_int (by decide +kernel) (pa_cons (pe_op op_add (pe_op op_fdivW (pe_op op_mul (pv 3) (pv 3)) pe_int) (pv 2)) pa_nil)) pe_int) pe_int))))), ?_⟩
  obtain ⟨n, t, rfl, n0, n1, t0, t1, q⟩ := h
  simp only [tSeq, tAsg, tDrop, tRet, tRetN, tIfS, tNext, tTest, tB, tNot, tAnd, tOr, tChain, tIf, tAndV, tOrV, tNotV, tOp, tUn, tCB, tCons, tNil, tVar, tC, tCall, tCallS, gName, rI, rI0, rU, rEq, rNe, tTup, tLst, gSub, rSetL, rIxL, rIxT, L2.start, List.map_cons, List.map_nil, List.length_cons, List.length_nil, Nat.reduceAdd, Nat.reduceSub, List.replicate_succ, List.replicate_zero, List.getElem?_cons_zero, List.getElem?_cons_succ, List.set_cons_zero, List.set_cons_succ, Option.some.injEq, exists_eq_left', exists_eq_left, exists_and_left, V.int.injEq, V.bl.injEq, V.ref.injEq, V.str.injEq, List.cons.injEq, and_true, true_and, List.nil_append, List.cons_append, List.append_nil, reduceCtorEq, false_and, exists_false, or_false, false_or, and_false, Int.reduceNeg, decide_eq_true_eq, Bool.not_eq_true', decide_eq_false_iff_not, and_assoc, tYes, ↓reduceIte, wipe, Bool.false_eq_true, Bool.true_eq_false, cxOf, false_implies, true_implies, implies_true, forall_const]
  have a0 := Int.emod_nonneg (n * 48271 + t * 16807 + 11) (b := 2147483647) (by decide)
  have a1 := Int.emod_lt_of_pos (n * 48271 + t * 16807 + 11) (b := 2147483647) (by decide)
  generalize (n * 48271 + t * 16807 + 11) % 2147483647 = x at a0 a1 ⊢
  refine ⟨cmr (by decide) (by decide), cmr (by decide) (by decide), by decide, cml (by omega) (by omega), cdw (by decide) (by decide), cmr (by decide) (by decide), cmr (by decide) (by decide), by decide, ?_⟩
  have b0 := Int.emod_nonneg (x * x + x / 127 * 40692 + t * 69621) (b := 2147483399) (by decide)
  have b1 := Int.emod_lt_of_pos (x * x + x / 127 * 40692 + t * 69621) (b := 2147483399) (by decide)
  generalize (x * x + x / 127 * 40692 + t * 69621) % 2147483399 = y at b0 b1 ⊢
  exact ⟨cml (by omega) (by omega), cdw (by decide) (by decide), by decide, cdw (by decide) (by decide), q _ (Int.ediv_nonneg (Int.emod_nonneg _ (by decide)) (by decide))⟩
theorem abs_take {ns : List Int} {i : Nat} {c : Int} (h : ns[i]? = some c) : ((ns.take (i + 1)).map fun c => V.int (if c < 0 then -c else c)) = ((ns.take i).map fun c => V.int (if c < 0 then -c else c)) ++ [V.int (if c < 0 then -c else c)] := by
  rw [List.take_add_one, h, List.map_append]
  rfl
abbrev sp_l_hand (K : PySem.W.Frag) : Sp := spHand K
theorem len_l_hand {vs H Q E} (h : sp_l_hand K vs H Q E) : vs.length = 1 := by
  obtain ⟨_, _, rfl, _⟩ := h; rfl
theorem ok_l_hand {f : Addr} {fd : FuncData} (F : Fun K "_law_hand" "_law_hand" s_l_hand f fd) (T : Txt K mg cBadPool cBadPeople cBadPerson cBadAmount) : FnOk P w K mg base CX0 1 f fd ps_l_hand (sp_l_hand K) := by
  refine F.ok (k := 0) sc_l_hand (fun vs H Q E h => len_l_hand h) (fun cdv A outer s H vs Q E hr h => ?_)
  refine ⟨_, (pss_cons (ps_set (i := 1) sc_l_hand.nd rfl (Or.inl rfl) pe_int)
      (pss_cons (ps_for PassesOwn.never rfl (pi_enum (by rfl) T.n_enumerate (pa_cons (pv 0) pa_nil)) (pg_tup rfl (pgs_cons (pg_name (i := 2) sc_l_hand.nd rfl (Or.inl rfl)) (pgs_cons (pg_name (i := 3) sc_l_hand.nd rfl (Or.inl rfl)) pgs_nil)))
      (pss_one (ps_set (i := 1) sc_l_hand.nd rfl (Or.inl rfl) (pe_op op_mod (pe_callTy call_int1 (by rfl) T.n_int (by decide +kernel) (pa_cons (pe_op op_add (pe_op op_mul (pv 1) pe_int) (pe_op op_mul (pe_callTy call_int1 (by rfl) T.n_int (by decide +kernel) (pa_cons (pv 3) pa_nil)) (pe_op op_add (pv 2) pe_int))) pa_nil)) pe_int))))
      (pss_one (ps_ret (pe_lst (pa_cons (pe_lc (own := [("_law_cell", 3)]) (g := gName 3) (tt := tYes) rfl sc_l_hand.nd (pi_list (pv 0)) (blkOk_by (N := nm_l_hand) (sc := defScope s_l_hand) (by decide +kernel)) (fun _ _ _ _ _ => (pg_name (i := 3) sc_l_hand.nd rfl (Or.inl rfl))) (fun _ _ _ _ _ => pts_nil) (fun _ _ _ _ _ => (pe_callB call_abs (by rfl) T.n_abs (by decide +kernel) (pa_cons (pe_callTy call_int1 (by rfl) T.n_int (by decide +kernel) (pa_cons (pv 3) pa_nil)) pa_nil)))) (pa_cons pe_int (pa_cons pe_int (pa_cons (pv 1) pa_nil))))))))), ?_⟩
  obtain ⟨a, ns, rfl, hS, hn, q⟩ := h
  simp only [tSeq, tAsg, tDrop, tRet, tRetN, tIfS, tNext, tTest, tB, tNot, tAnd, tOr, tChain, tIf, tAndV, tOrV, tNotV, tOp, tUn, tCB, tCons, tNil, tVar, tC, tCall, tCallS, gName, rI, rI0, rU, rEq, rNe, tTup, tLst, gSub, rSetL, rIxL, rIxT, L2.start, List.map_cons, List.map_nil, List.length_cons, List.length_nil, Nat.reduceAdd, Nat.reduceSub, List.replicate_succ, List.replicate_zero, List.getElem?_cons_zero, List.getElem?_cons_succ, List.set_cons_zero, List.set_cons_succ, Option.some.injEq, exists_eq_left', exists_eq_left, exists_and_left, V.int.injEq, V.bl.injEq, V.ref.injEq, V.str.injEq, List.cons.injEq, and_true, true_and, List.nil_append, List.cons_append, List.append_nil, reduceCtorEq, false_and, exists_false, or_false, false_or, and_false, Int.reduceNeg, decide_eq_true_eq, Bool.not_eq_true', decide_eq_false_iff_not, and_assoc, tYes, ↓reduceIte, wipe, Bool.false_eq_true, Bool.true_eq_false, cxOf, false_implies, true_implies, implies_true, forall_const]
  refine ⟨_, rfl, a, _, rfl, hS, for_enum (K := K) (a := a) (xs := ns.map V.int) (fun i z h => ∃ (t : Int) (v u : Option V), z = [some (.ref a), some (.int t), v, u] ∧ 0 ≤ t ∧ t < 2147483629 ∧ Same H h)
    ⟨0, none, none, rfl, by decide, by decide, Same.refl H⟩ (fun i z h _ ⟨_, _, _, _, _, _, s⟩ => s.seq hS) ?_ ?_⟩
  · rintro i y T z h hi hT ⟨t, v, u, rfl, t0, t1, s⟩
    obtain ⟨c, hc, rfl⟩ := nat_map hi
    have hil := (List.getElem?_eq_some_iff.mp hc).1
    refine ⟨T, _, rfl, SqT.of upd_same, rfl, _, _, rfl, _, _, rfl, rfl, ?_⟩
    simp only [tSeq, tAsg, tDrop, tRet, tRetN, tIfS, tNext, tTest, tB, tNot, tAnd, tOr, tChain, tIf, tAndV, tOrV, tNotV, tOp, tUn, tCB, tCons, tNil, tVar, tC, tCall, tCallS, gName, rI, rI0, rU, rEq, rNe, tTup, tLst, gSub, rSetL, rIxL, rIxT, L2.start, List.map_cons, List.map_nil, List.length_cons, List.length_nil, Nat.reduceAdd, Nat.reduceSub, List.replicate_succ, List.replicate_zero, List.getElem?_cons_zero, List.getElem?_cons_succ, List.set_cons_zero, List.set_cons_succ, Option.some.injEq, exists_eq_left', exists_eq_left, exists_and_left, V.int.injEq, V.bl.injEq, V.ref.injEq, V.str.injEq, List.cons.injEq, and_true, true_and, List.nil_append, List.cons_append, List.append_nil, reduceCtorEq, false_and, exists_false, or_false, false_or, and_false, Int.reduceNeg, decide_eq_true_eq, Bool.not_eq_true', decide_eq_false_iff_not, and_assoc, tYes, ↓reduceIte, wipe, Bool.false_eq_true, Bool.true_eq_false, cxOf, false_implies, true_implies, implies_true, forall_const]
    exact ⟨cmr (by decide) (by decide), cmr (by omega) (by omega), by decide, Int.emod_nonneg _ (by decide), Int.emod_lt_of_pos _ (by decide), s.trans (Same.new hT)⟩
  · rintro z h ⟨t, v, u, rfl, t0, t1, s⟩
    simp only [tSeq, tAsg, tDrop, tRet, tRetN, tIfS, tNext, tTest, tB, tNot, tAnd, tOr, tChain, tIf, tAndV, tOrV, tNotV, tOp, tUn, tCB, tCons, tNil, tVar, tC, tCall, tCallS, gName, rI, rI0, rU, rEq, rNe, tTup, tLst, gSub, rSetL, rIxL, rIxT, L2.start, List.map_cons, List.map_nil, List.length_cons, List.length_nil, Nat.reduceAdd, Nat.reduceSub, List.replicate_succ, List.replicate_zero, List.getElem?_cons_zero, List.getElem?_cons_succ, List.set_cons_zero, List.set_cons_succ, Option.some.injEq, exists_eq_left', exists_eq_left, exists_and_left, V.int.injEq, V.bl.injEq, V.ref.injEq, V.str.injEq, List.cons.injEq, and_true, true_and, List.nil_append, List.cons_append, List.append_nil, reduceCtorEq, false_and, exists_false, or_false, false_or, and_false, Int.reduceNeg, decide_eq_true_eq, Bool.not_eq_true', decide_eq_false_iff_not, and_assoc, tYes, ↓reduceIte, wipe, Bool.false_eq_true, Bool.true_eq_false, cxOf, false_implies, true_implies, implies_true, forall_const]
    refine ⟨_, rfl, a, rfl, ⟨_, s.seq hS⟩, fun D hD => lc_list (K := K) (a := a) (xs := ns.map V.int) (fun i h' => Same h h' ∧ h' D = some (.lst ((ns.take i).map fun c => V.int (if c < 0 then -c else c)))) ⟨Same.new hD, upd_same⟩ (fun i h' _ ⟨s', _⟩ => (s.trans s').seq hS) ?_ ?_⟩
    · rintro i y h' hi ⟨s', e'⟩
      obtain ⟨c, hc, rfl⟩ := nat_map hi
      have hil := (List.getElem?_eq_some_iff.mp hc).1
      simp only [tSeq, tAsg, tDrop, tRet, tRetN, tIfS, tNext, tTest, tB, tNot, tAnd, tOr, tChain, tIf, tAndV, tOrV, tNotV, tOp, tUn, tCB, tCons, tNil, tVar, tC, tCall, tCallS, gName, rI, rI0, rU, rEq, rNe, tTup, tLst, gSub, rSetL, rIxL, rIxT, L2.start, List.map_cons, List.map_nil, List.length_cons, List.length_nil, Nat.reduceAdd, Nat.reduceSub, List.replicate_succ, List.replicate_zero, List.getElem?_cons_zero, List.getElem?_cons_succ, List.set_cons_zero, List.set_cons_succ, Option.some.injEq, exists_eq_left', exists_eq_left, exists_and_left, V.int.injEq, V.bl.injEq, V.ref.injEq, V.str.injEq, List.cons.injEq, and_true, true_and, List.nil_append, List.cons_append, List.append_nil, reduceCtorEq, false_and, exists_false, or_false, false_or, and_false, Int.reduceNeg, decide_eq_true_eq, Bool.not_eq_true', decide_eq_false_iff_not, and_assoc, tYes, ↓reduceIte, wipe, Bool.false_eq_true, Bool.true_eq_false, cxOf, false_implies, true_implies, implies_true, forall_const]
      refine ⟨_, e', by rw [List.length_map, List.length_take]; exact small1000 (by omega), fun b o e => ?_, by rw [upd_same, abs_take hc]⟩
      rw [upd_ne (ne_of_none e hD)]
      exact s' b o e
    · rintro h' ⟨s', e'⟩
      refine ⟨by decide, fun p hp => q p D _ (s.trans (s'.trans (Same.new hp))) ⟨ns.map fun c => if c < 0 then -c else c, 0, 0, t, upd_same, ?_, by rw [List.length_map]; exact hn, ?_, by omega, by omega, by omega, t0, t1⟩⟩
      · rw [upd_ne (ne_of_none e' hp), e', List.length_map, List.take_length, List.map_map]
        rfl
      · intro c hc
        obtain ⟨b, _, rfl⟩ := List.mem_map.mp hc
        split <;> omega
abbrev sp_l_draw (_ : PySem.W.Frag) : Sp := spDraw
theorem len_l_draw {vs H Q E} (h : sp_l_draw K vs H Q E) : vs.length = 2 := by
  obtain ⟨_, _, _, rfl, _⟩ := h; rfl
theorem ok_l_draw {f : Addr} {fd : FuncData} (F : Fun K "_law_draw" "_law_draw" s_l_draw f fd) (T : Txt K mg cBadPool cBadPeople cBadPerson cBadAmount) : FnOk P w K mg base CX0 2 f fd ps_l_draw (sp_l_draw K) := by
  obtain ⟨f_l_mix, fd_l_mix, F_l_mix, m_l_mix, b_l_mix⟩ := T.d_l_mix
  have G_l_mix : FnOk P w K mg base CX0 1 f_l_mix fd_l_mix ps_l_mix (sp_l_mix K) := ok_l_mix F_l_mix T
  refine F.ok (k := 1) sc_l_draw (fun vs H Q E h => len_l_draw h) (fun cdv A outer s H vs Q E hr h => ?_)
  refine ⟨_, (pss_cons (ps_if (PW.pt (pw_and (pt_cmpR op_eq (pe_ix ix_list (pv 0) pe_int (fun _ _ => rfl)) pe_int (nomark _)) (pw_and1 (pt_cmpR op_lt (pe_ix ix_list (pv 0) pe_int (fun _ _ => rfl)) (pe_callB call_len_seq (by rfl) T.n_len (by decide +kernel) (pa_cons (pe_ix ix_list (pv 0) pe_int (fun _ _ => rfl)) pa_nil)) (nomark _))))) (pss_cons (ps_set (i := 2) sc_l_draw.nd rfl (Or.inl rfl) (pe_ix ix_list (pe_ix ix_list (pv 0) pe_int (fun _ _ => rfl)) (pe_ix ix_list (pv 0) pe_int (fun _ _ => rfl)) (fun _ _ => rfl)))
      (pss_cons (ps_asg (pe_op op_add (pe_ix ix_list (pv 0) pe_int (fun _ _ => rfl)) pe_int) (pg_sub (pv 0) pe_int set_list))
      (pss_cons (ps_if (pt_cmpR op_lt (pv 2) (pe_op op_pow pe_int pe_int) (nomark _)) (pss_one (ps_ret (pe_op op_mod (pe_callTy call_int1 (by rfl) T.n_int (by decide +kernel) (pa_cons (pe_call G_l_mix (hr.mono (by decide)) (by rfl) m_l_mix F_l_mix.kp b_l_mix .nil pass0 (pa_cons (pe_op op_mod (pe_callTy call_int1 (by rfl) T.n_int (by decide +kernel) (pa_cons (pv 2) pa_nil)) pe_int) (pa_cons (pe_ix ix_list (pv 0) pe_int (fun _ _ => rfl)) pa_nil))) pa_nil)) (pv 1)))) pss_nil)
      (pss_one (ps_asg (pv 2) (pg_sub (pv 0) pe_int set_list)))))) pss_nil)
      (pss_cons (ps_if (pt_cmpR op_gt (pe_ix ix_list (pv 0) pe_int (fun _ _ => rfl)) pe_int (nomark _)) (pss_cons (ps_set (i := 3) sc_l_draw.nd rfl (Or.inl rfl) (pe_ix ix_list (pv 0) pe_int (fun _ _ => rfl)))
      (pss_cons (ps_asg (pe_op op_fdivW (pv 3) (pv 1)) (pg_sub (pv 0) pe_int set_list))
      (pss_one (ps_ret (pe_op op_mod (pe_callTy call_int1 (by rfl) T.n_int (by decide +kernel) (pa_cons (pv 3) pa_nil)) (pv 1)))))) pss_nil)
      (pss_cons (ps_asg (pe_op op_mod (pe_callTy call_int1 (by rfl) T.n_int (by decide +kernel) (pa_cons (pe_op op_add (pe_ix ix_list (pv 0) pe_int (fun _ _ => rfl)) pe_int) pa_nil)) pe_int) (pg_sub (pv 0) pe_int set_list))
      (pss_one (ps_ret (pe_op op_mod (pe_callTy call_int1 (by rfl) T.n_int (by decide +kernel) (pa_cons (pe_call G_l_mix (hr.mono (by decide)) (by rfl) m_l_mix F_l_mix.kp b_l_mix .nil pass0 (pa_cons (pe_ix ix_list (pv 0) pe_int (fun _ _ => rfl)) (pa_cons (pe_ix ix_list (pv 0) pe_int (fun _ _ => rfl)) pa_nil))) pa_nil)) (pv 1))))))), ?_⟩
  obtain ⟨h, q, m, rfl, hh, m0, m1, k⟩ := h
  obtain ⟨cs, i, r, t, h1, h2, cl, c0, i0, il, r0, t0, t1⟩ := hh.ex
  simp only [tSeq, tAsg, tDrop, tRet, tRetN, tIfS, tNext, tTest, tB, tNot, tAnd, tOr, tChain, tIf, tAndV, tOrV, tNotV, tOp, tUn, tCB, tCons, tNil, tVar, tC, tCall, tCallS, gName, rI, rI0, rU, rEq, rNe, tTup, tLst, gSub, rSetL, rIxL, rIxT, L2.start, List.map_cons, List.map_nil, List.length_cons, List.length_nil, Nat.reduceAdd, Nat.reduceSub, List.replicate_succ, List.replicate_zero, List.getElem?_cons_zero, List.getElem?_cons_succ, List.set_cons_zero, List.set_cons_succ, Option.some.injEq, exists_eq_left', exists_eq_left, exists_and_left, V.int.injEq, V.bl.injEq, V.ref.injEq, V.str.injEq, List.cons.injEq, and_true, true_and, List.nil_append, List.cons_append, List.append_nil, reduceCtorEq, false_and, exists_false, or_false, false_or, and_false, Int.reduceNeg, decide_eq_true_eq, Bool.not_eq_true', decide_eq_false_iff_not, and_assoc, tYes, ↓reduceIte, wipe, Bool.false_eq_true, Bool.true_eq_false, cxOf, false_implies, true_implies, implies_true, forall_const, spMix]
  refine ⟨_, SqL.of h1, _, rfl, rfl, ?_⟩
  split
  · rename_i e
    obtain rfl : r = 0 := by injection e
    refine ⟨_, SqL.of h1, _, rfl, _, SqL.of h1, _, rfl, q, rfl, _, .inl (SqL.of h2), i, rfl, ?_⟩
    split
    · rename_i hi
      obtain ⟨j, rfl⟩ := Int.eq_ofNat_of_zero_le i0
      have hj : j < cs.length := by
        rw [List.length_map] at hi
        omega
      have hc' : (cs.map V.int)[j]? = some (.int cs[j]) := by rw [List.getElem?_map, List.getElem?_eq_getElem hj]; rfl
      have cj : 0 ≤ cs[j] := c0 _ (List.getElem_mem hj)
      have e18 : (10 : Int) ^ Int.toNat 18 = 1000000000000000000 := by decide
      refine ⟨_, SqL.of h1, _, rfl, _, SqL.of h1, _, rfl, q, rfl, _, _, rfl, SqL.of h2, _, atI_nat hc', _, SqL.of h1, _, rfl, _, rfl, _, h1, 1, rfl, ⟨by decide, by decide, by decide⟩, cs[j], rfl, ?_⟩
      split
      · refine .inl ⟨cs[j], rfl, by decide, _, SqL.of upd_same, _, rfl, _, rfl, Int.emod_nonneg _ (by decide), Int.lt_trans (Int.emod_lt_of_pos _ (by decide)) (by decide), by omega, by omega, fun r' hr' => ⟨m0, k _ _ (Int.emod_nonneg _ (by omega)) (Int.emod_lt_of_pos _ m0) ?_ But.upd⟩⟩
        exact ⟨cs, (j : Int) + 1, 0, t, upd_same, by rw [upd_ne hh.ne.symm]; exact h2, cl, c0, by omega, by omega, by omega, t0, t1⟩
      · rename_i e2
        rw [e18] at e2
        refine ⟨_, upd_same, 2, rfl, _, SqL.of upd_same, _, rfl, cs[j], rfl, ?_⟩
        rw [if_pos (by omega)]
        refine ⟨_, SqL.of upd_same, _, rfl, cs[j], rfl, cdw m0 m1, _, upd_same, 2, rfl, .inl ⟨cs[j], rfl, m0, k _ _ (Int.emod_nonneg _ (by omega)) (Int.emod_lt_of_pos _ m0) ?_ But.upd.then.then⟩⟩
        exact ⟨cs, (j : Int) + 1, cs[j] / m, t, upd_same, by rw [upd_ne hh.ne.symm, upd_ne hh.ne.symm, upd_ne hh.ne.symm]; exact h2, cl, c0, by omega, by omega, Int.ediv_nonneg cj (by omega), t0, t1⟩
    · rename_i hi
      refine ⟨_, SqL.of h1, _, rfl, 0, rfl, ?_⟩
      rw [if_neg (by decide)]
      refine ⟨_, SqL.of h1, _, rfl, t, rfl, by decide, _, h1, 3, rfl, _, SqL.of upd_same, _, rfl, _, SqL.of upd_same, _, rfl, _, rfl, _, rfl, Int.emod_nonneg _ (by decide), Int.lt_trans (Int.emod_lt_of_pos _ (by decide)) (by decide), by omega, by omega,
        fun r' hr' => ⟨m0, k _ _ (Int.emod_nonneg _ (by omega)) (Int.emod_lt_of_pos _ m0) ?_ But.upd⟩⟩
      exact ⟨cs, i, 0, (t + 1) % 2147483629, upd_same, by rw [upd_ne hh.ne.symm]; exact h2, cl, c0, by omega, by omega, by omega, Int.emod_nonneg _ (by decide), Int.emod_lt_of_pos _ (by decide)⟩
  · rename_i e
    have e' : r ≠ 0 := fun z => e (by rw [z])
    refine ⟨_, SqL.of h1, _, rfl, r, rfl, ?_⟩
    rw [if_pos (by omega)]
    refine ⟨_, SqL.of h1, _, rfl, r, rfl, cdw m0 m1, _, h1, 2, rfl, .inl ⟨r, rfl, m0, k _ _ (Int.emod_nonneg _ (by omega)) (Int.emod_lt_of_pos _ m0) ?_ But.upd⟩⟩
    exact ⟨cs, i, r / m, t, upd_same, by rw [upd_ne hh.ne.symm]; exact h2, cl, c0, by omega, by omega, Int.ediv_nonneg r0 (by omega), t0, t1⟩
end
end My
set_option Elab.async false
set_option linter.all false
set_option maxRecDepth 100000
set_option maxHeartbeats 4000000
namespace My
open PySem PySem.Spec PyProof.Rows L2 Gen
theorem sorted_counts {a b : List Int} (h1 : a.Pairwise (· ≤ ·)) (h2 : b.Pairwise (· ≤ ·)) (h : ∀ x, a.count x = b.count x) : a = b := PySem.W.os_sorted_one (List.perm_iff_count.mpr h) h1 h2
section
variable {P : Program} {w : World} {K : PySem.W.Frag} {mg : Str → Option Value} {base : Heap} { cBadPool cBadPeople cBadPerson cBadAmount : Addr}
def PoolOk (H : Hp) (x : V) (a : Addr) (ns : List Int) : Prop := x = .ref a ∧ Row H a (ns.map V.int) ∧ ns.length ≤ 12 ∧ ∀ n, n ∈ ns → 1 ≤ n ∧ n ≤ 1000000000
/-- the errors of a pool that is none -/
def PoolBad (cB : Addr) (x : V) (H : Hp) (E : XK) : Prop :=
  (¬ FewRow H x → ∀ H' d, Same H H' → H' d = none → E (.ref cB) (some d) (upd H' d (bad2 0 "many"))) ∧
  (∀ a xs (i : Nat) y, x = .ref a → Row H a xs → xs.length ≤ 12 → (∀ j z, j < i → xs[j]? = some z → whole z 1 1000000000 = true) → xs[i]? = some y → whole y 1 1000000000 = false → ∀ H' d, Same H H' → H' d = none → E (.ref cB) (some d) (upd H' d (bad2 i "coin")))
theorem plain_row {H H' : Hp} {a : Addr} {xs : List V} (hp : Plain H (.ref a)) (s : Same H H') (r : Row H' a xs) : Row H a xs := by
  rcases hp with ⟨ys, h⟩ | ⟨ys, h⟩ | ⟨ys, h⟩
  · rw [← Row.one (H := H') (.inl (s _ _ h)) r]
    exact .inl h
  · rw [← Row.one (H := H') (.inr (s _ _ h)) r]
    exact .inr h
  · rcases r with r | r <;> (rw [s _ _ h] at r; cases r)
theorem arg_same {H H' : Hp} {x : V} (h : Arg H x) (s : Same H H') : Arg H' x := ⟨h.1.same s, fun a xs e r y hy => by
  subst e
  exact (h.2 a xs rfl (plain_row h.1 s r) y hy).same s⟩
theorem few_same {H H' : Hp} {x : V} (h : FewRow H x) (s : Same H H') : FewRow H' x := by
  obtain ⟨a, xs, e, r, l⟩ := h
  exact ⟨a, xs, e, r.same s, l⟩
theorem bad_back {cB : Addr} {H H1 : Hp} {x : V} {E : XK} (h : Arg H x) (s : Same H H1) (b : PoolBad cB x H E) : PoolBad cB x H1 E := by
  refine ⟨fun n H' d s' hd => b.1 (fun f => n (few_same f s)) H' d (s.trans s') hd, fun a xs i y e r l f g z H' d s' hd => ?_⟩
  subst e
  exact b.2 a xs i y rfl (plain_row h.1 s r) l f g z H' d (s.trans s') hd
theorem ok_back {H H1 : Hp} {x : V} {a : Addr} {ns : List Int} (h : Arg H x) (s : Same H H1) (o : PoolOk H1 x a ns) : PoolOk H x a ns := by
  obtain ⟨e, r, l, b⟩ := o
  subst e
  exact ⟨rfl, plain_row h.1 s r, l, b⟩
theorem bad_ok2 {cB : Addr} {x : V} {H : Hp} {Q : VK} {E : XK} (h : Arg H x) (b : PoolBad cB x H E)
    (k : ∀ (a : Addr) (ns : List Int), PoolOk H x a ns → ∀ (H' : Hp) (b : Addr) (ms : List Int), Same H H' → TupN H' b (ms.map V.int) → ms.Perm ns → ms.Pairwise (· ≤ ·) → Q (.ref b) H') : sp_check_pool K cB [x] H Q E :=
  ⟨x, rfl, h, b.1, b.2, fun a ns e r l nb => k a ns ⟨e, r, l, nb⟩⟩
theorem sqT_same {H H' : Hp} {a : Addr} {xs : List V} (h : SqT K H a xs) (s : Same H H') : SqT K H' a xs := by
  rcases h with (h | ⟨o, h⟩) | h
  · exact .inl (.inl (s _ _ h))
  · exact .inl (.inr ⟨o, s _ _ h⟩)
  · exact .inr h
theorem cat_tup {H : Hp} {a b : Addr} {ns ms : List Int} {Q : VK} (ha : SqT K H a (ns.map V.int)) (hb : SqT K H b (ms.map V.int)) (hz : ns.length + ms.length ≤ 300)
    (k : ∀ (H' : Hp) (c : Addr), Same H H' → SqT K H' c ((ns ++ ms).map V.int) → Q (.ref c) H') : rCatA K (.ref a) (.ref b) H Q := by
  refine ⟨a, b, _, _, rfl, rfl, ha, hb, ?_, fun e => ?_, fun _ e => ?_, fun _ _ p hp => ?_⟩
  · rw [List.length_map, List.length_map]
    exact Nat.le_of_lt (Nat.lt_of_le_of_lt hz (by decide))
  · have e1 : ns = [] := List.map_eq_nil_iff.mp e
    exact k H b (Same.refl H) (by rw [e1]; exact hb)
  · have e1 : ms = [] := List.map_eq_nil_iff.mp e
    exact k H a (Same.refl H) (by rw [e1, List.append_nil]; exact ha)
  · exact k _ p (Same.new hp) (SqT.of (by rw [upd_same, List.map_append]))
def sp_check_people (_ : PySem.W.Frag) (cP : Addr) : Sp := fun vs H Q E => ∃ (x : V) (lo : Int), vs = [x, .int lo] ∧ Plain H x ∧ (whole x lo 5 = true → Q x H) ∧ (whole x lo 5 = false → E (.ref cP) none H)
theorem len_check_people {vs H Q E} (h : sp_check_people K cBadPeople vs H Q E) : vs.length = 2 := by
  obtain ⟨_, _, rfl, _⟩ := h; rfl
theorem ok_check_people {f : Addr} {fd : FuncData} (F : FunD K "check_people" "check_people" (defArgs s_check_people) (defBody s_check_people) (defScope s_check_people) [(V.int 1)] [] f fd) (T : Txt K mg cBadPool cBadPeople cBadPerson cBadAmount) : FnOk P w K mg base (L2.CX P w) 3 f fd ps_check_people (sp_check_people K cBadPeople) := by
  obtain ⟨f_is_whole, fd_is_whole, F_is_whole, m_is_whole, b_is_whole⟩ := T.d_is_whole
  have G_is_whole : FnOk P w K mg base CX0 2 f_is_whole fd_is_whole ps_is_whole (sp_is_whole K) := ok_is_whole F_is_whole T
  obtain ⟨u_MOST_PEOPLE, c_MOST_PEOPLE, r_MOST_PEOPLE⟩ := T.c_MOST_PEOPLE
  refine F.ok (k := 2) sc_check_people (fun vs H Q E h => len_check_people h) (fun cdv A outer s H vs Q E hr h => ?_)
  refine ⟨_, (pss_cons (ps_if (pt_not (pt_val (pe_call G_is_whole (hr.mono (by decide)) (by rfl) m_is_whole F_is_whole.kp b_is_whole .nil pass0 (pa_cons (pv 0) (pa_cons (pv 1) (pa_cons (pe_glob rfl c_MOST_PEOPLE r_MOST_PEOPLE) pa_nil)))))) (pss_one (ps_raise rfl (takes_of rfl rfl rfl rfl) (T.y_BadPeople.made (by rfl)))) pss_nil)
      (pss_one (ps_ret (pv 0)))), ?_⟩
  obtain ⟨x, lo, rfl, hp, q1, q2⟩ := h
  simp only [tSeq, tAsg, tDrop, tRet, tRetN, tIfS, tNext, tTest, tB, tNot, tAnd, tOr, tChain, tIf, tAndV, tOrV, tNotV, tOp, tUn, tCB, tCons, tNil, tVar, tC, tCall, tCallS, gName, rI, rI0, rU, rEq, rNe, tTup, tLst, gSub, rSetL, rIxL, rIxT, L2.start, List.map_cons, List.map_nil, List.length_cons, List.length_nil, Nat.reduceAdd, Nat.reduceSub, List.replicate_succ, List.replicate_zero, List.getElem?_cons_zero, List.getElem?_cons_succ, List.set_cons_zero, List.set_cons_succ, Option.some.injEq, exists_eq_left', exists_eq_left, exists_and_left, V.int.injEq, V.bl.injEq, V.ref.injEq, V.str.injEq, List.cons.injEq, and_true, true_and, List.nil_append, List.cons_append, List.append_nil, reduceCtorEq, false_and, exists_false, or_false, false_or, and_false, Int.reduceNeg, decide_eq_true_eq, Bool.not_eq_true', decide_eq_false_iff_not, and_assoc, tYes, ↓reduceIte, wipe, Bool.false_eq_true, Bool.true_eq_false, cxOf, false_implies, true_implies, implies_true, forall_const, sp_is_whole]
  refine ⟨hp, ?_⟩
  split
  · rename_i e; exact q2 e
  · rename_i e; exact q1 (by simpa using e)
def sp_check_person (_ : PySem.W.Frag) (cP : Addr) : Sp := fun vs H Q E => ∃ (x : V) (p : Int), vs = [.int p, x] ∧ Plain H x ∧ (whole x 0 (p - 1) = true → Q x H) ∧ (whole x 0 (p - 1) = false → E (.ref cP) none H)
theorem len_check_person {vs H Q E} (h : sp_check_person K cBadPerson vs H Q E) : vs.length = 2 := by
  obtain ⟨_, _, rfl, _⟩ := h; rfl
theorem ok_check_person {f : Addr} {fd : FuncData} (F : Fun K "check_person" "check_person" s_check_person f fd) (T : Txt K mg cBadPool cBadPeople cBadPerson cBadAmount) : FnOk P w K mg base (L2.CX P w) 3 f fd ps_check_person (sp_check_person K cBadPerson) := by
  obtain ⟨f_is_whole, fd_is_whole, F_is_whole, m_is_whole, b_is_whole⟩ := T.d_is_whole
  have G_is_whole : FnOk P w K mg base CX0 2 f_is_whole fd_is_whole ps_is_whole (sp_is_whole K) := ok_is_whole F_is_whole T
  refine F.okX (k := 2) sc_check_person (fun vs H Q E h => len_check_person h) (fun cdv A outer s H vs Q E hr h => ?_)
  refine ⟨_, (pss_cons (ps_if (pt_not (pt_val (pe_call G_is_whole (hr.mono (by decide)) (by rfl) m_is_whole F_is_whole.kp b_is_whole .nil pass0 (pa_cons (pv 1) (pa_cons pe_int (pa_cons (pe_op op_sub (pv 0) pe_int) pa_nil)))))) (pss_one (ps_raise rfl (takes_of rfl rfl rfl rfl) (T.y_BadPerson.made (by rfl)))) pss_nil)
      (pss_one (ps_ret (pv 1)))), ?_⟩
  obtain ⟨x, p, rfl, hp, q1, q2⟩ := h
  simp only [tSeq, tAsg, tDrop, tRet, tRetN, tIfS, tNext, tTest, tB, tNot, tAnd, tOr, tChain, tIf, tAndV, tOrV, tNotV, tOp, tUn, tCB, tCons, tNil, tVar, tC, tCall, tCallS, gName, rI, rI0, rU, rEq, rNe, tTup, tLst, gSub, rSetL, rIxL, rIxT, L2.start, List.map_cons, List.map_nil, List.length_cons, List.length_nil, Nat.reduceAdd, Nat.reduceSub, List.replicate_succ, List.replicate_zero, List.getElem?_cons_zero, List.getElem?_cons_succ, List.set_cons_zero, List.set_cons_succ, Option.some.injEq, exists_eq_left', exists_eq_left, exists_and_left, V.int.injEq, V.bl.injEq, V.ref.injEq, V.str.injEq, List.cons.injEq, and_true, true_and, List.nil_append, List.cons_append, List.append_nil, reduceCtorEq, false_and, exists_false, or_false, false_or, and_false, Int.reduceNeg, decide_eq_true_eq, Bool.not_eq_true', decide_eq_false_iff_not, and_assoc, tYes, ↓reduceIte, wipe, Bool.false_eq_true, Bool.true_eq_false, cxOf, false_implies, true_implies, implies_true, forall_const, sp_is_whole]
  refine ⟨hp, ?_⟩
  split
  · rename_i e; exact q2 e
  · rename_i e; exact q1 (by simpa using e)
def sp_check_amount (_ : PySem.W.Frag) (cP : Addr) : Sp := fun vs H Q E => ∃ (x : V) (lo : Int), vs = [x, .int lo] ∧ Plain H x ∧ (whole x lo 12000000000 = true → Q x H) ∧ (whole x lo 12000000000 = false → E (.ref cP) none H)
theorem len_check_amount {vs H Q E} (h : sp_check_amount K cBadAmount vs H Q E) : vs.length = 2 := by
  obtain ⟨_, _, rfl, _⟩ := h; rfl
theorem ok_check_amount {f : Addr} {fd : FuncData} (F : FunD K "check_amount" "check_amount" (defArgs s_check_amount) (defBody s_check_amount) (defScope s_check_amount) [(V.int 0)] [] f fd) (T : Txt K mg cBadPool cBadPeople cBadPerson cBadAmount) : FnOk P w K mg base (L2.CX P w) 3 f fd ps_check_amount (sp_check_amount K cBadAmount) := by
  obtain ⟨f_is_whole, fd_is_whole, F_is_whole, m_is_whole, b_is_whole⟩ := T.d_is_whole
  have G_is_whole : FnOk P w K mg base CX0 2 f_is_whole fd_is_whole ps_is_whole (sp_is_whole K) := ok_is_whole F_is_whole T
  obtain ⟨u_GREATEST_AMOUNT, c_GREATEST_AMOUNT, r_GREATEST_AMOUNT⟩ := T.c_GREATEST_AMOUNT
  refine F.ok (k := 2) sc_check_amount (fun vs H Q E h => len_check_amount h) (fun cdv A outer s H vs Q E hr h => ?_)
  refine ⟨_, (pss_cons (ps_if (pt_not (pt_val (pe_call G_is_whole (hr.mono (by decide)) (by rfl) m_is_whole F_is_whole.kp b_is_whole .nil pass0 (pa_cons (pv 0) (pa_cons (pv 1) (pa_cons (pe_glob rfl c_GREATEST_AMOUNT r_GREATEST_AMOUNT) pa_nil)))))) (pss_one (ps_raise rfl (takes_of rfl rfl rfl rfl) (T.y_BadAmount.made (by rfl)))) pss_nil)
      (pss_one (ps_ret (pv 0)))), ?_⟩
  obtain ⟨x, lo, rfl, hp, q1, q2⟩ := h
  simp only [tSeq, tAsg, tDrop, tRet, tRetN, tIfS, tNext, tTest, tB, tNot, tAnd, tOr, tChain, tIf, tAndV, tOrV, tNotV, tOp, tUn, tCB, tCons, tNil, tVar, tC, tCall, tCallS, gName, rI, rI0, rU, rEq, rNe, tTup, tLst, gSub, rSetL, rIxL, rIxT, L2.start, List.map_cons, List.map_nil, List.length_cons, List.length_nil, Nat.reduceAdd, Nat.reduceSub, List.replicate_succ, List.replicate_zero, List.getElem?_cons_zero, List.getElem?_cons_succ, List.set_cons_zero, List.set_cons_succ, Option.some.injEq, exists_eq_left', exists_eq_left, exists_and_left, V.int.injEq, V.bl.injEq, V.ref.injEq, V.str.injEq, List.cons.injEq, and_true, true_and, List.nil_append, List.cons_append, List.append_nil, reduceCtorEq, false_and, exists_false, or_false, false_or, and_false, Int.reduceNeg, decide_eq_true_eq, Bool.not_eq_true', decide_eq_false_iff_not, and_assoc, tYes, ↓reduceIte, wipe, Bool.false_eq_true, Bool.true_eq_false, cxOf, false_implies, true_implies, implies_true, forall_const, sp_is_whole]
  refine ⟨hp, ?_⟩
  split
  · rename_i e; exact q2 e
  · rename_i e; exact q1 (by simpa using e)
def sp_total_of (_ : PySem.W.Frag) (cB : Addr) : Sp := fun vs H Q E => ∃ x : V, vs = [x] ∧ Arg H x ∧ PoolBad cB x H E ∧ ∀ a ns, PoolOk H x a ns → ∀ H', Same H H' → Q (.int ns.sum) H'
theorem len_total_of {vs H Q E} (h : sp_total_of K cBadPool vs H Q E) : vs.length = 1 := by
  obtain ⟨_, rfl, _⟩ := h; rfl
theorem ok_total_of {f : Addr} {fd : FuncData} (F : Fun K "total_of" "total_of" s_total_of f fd) (T : Txt K mg cBadPool cBadPeople cBadPerson cBadAmount) : FnOk P w K mg base (L2.CX P w) 4 f fd ps_total_of (sp_total_of K cBadPool) := by
  obtain ⟨f_check_pool, fd_check_pool, F_check_pool, m_check_pool, b_check_pool⟩ := T.d_check_pool
  have G_check_pool : FnOk P w K mg base (L2.CX P w) 3 f_check_pool fd_check_pool ps_check_pool (sp_check_pool K cBadPool) := ok_check_pool F_check_pool T
  refine F.okX (k := 3) sc_total_of (fun vs H Q E h => len_total_of h) (fun cdv A outer s H vs Q E hr h => ?_)
  refine ⟨_, (pss_one (ps_ret (pe_callB (cr_sumE rfl) (by rfl) T.n_sum (by decide +kernel) (pa_cons (pe_call G_check_pool (hr.mono (by decide)) (by rfl) m_check_pool F_check_pool.kp b_check_pool .nil (passes_call (takes_of rfl rfl rfl rfl) fun _ _ _ _ z => z) (pa_cons (pv 0) pa_nil)) pa_nil)))), ?_⟩
  obtain ⟨x, rfl, hx, q1, q2⟩ := h
  simp only [tSeq, tAsg, tDrop, tRet, tRetN, tIfS, tNext, tTest, tB, tNot, tAnd, tOr, tChain, tIf, tAndV, tOrV, tNotV, tOp, tUn, tCB, tCons, tNil, tVar, tC, tCall, tCallS, gName, rI, rI0, rU, rEq, rNe, tTup, tLst, gSub, rSetL, rIxL, rIxT, L2.start, List.map_cons, List.map_nil, List.length_cons, List.length_nil, Nat.reduceAdd, Nat.reduceSub, List.replicate_succ, List.replicate_zero, List.getElem?_cons_zero, List.getElem?_cons_succ, List.set_cons_zero, List.set_cons_succ, Option.some.injEq, exists_eq_left', exists_eq_left, exists_and_left, V.int.injEq, V.bl.injEq, V.ref.injEq, V.str.injEq, List.cons.injEq, and_true, true_and, List.nil_append, List.cons_append, List.append_nil, reduceCtorEq, false_and, exists_false, or_false, false_or, and_false, Int.reduceNeg, decide_eq_true_eq, Bool.not_eq_true', decide_eq_false_iff_not, and_assoc, tYes, ↓reduceIte, wipe, Bool.false_eq_true, Bool.true_eq_false, cxOf, false_implies, true_implies, implies_true, forall_const, rSumE]
  refine bad_ok2 hx q1 fun a ns o H1 c ks s1 e1 p1 p2 => ⟨c, rfl, ks, .inr e1.sq, ?_⟩
  rw [sum_perm p1]
  exact q2 a ns o H1 s1
/-! ## coins counted -/
/-- the unlike ones of ns, ascending -/
def Uni (ws ns : List Int) : Prop := ws.Pairwise (· < ·) ∧ ∀ x, x ∈ ws ↔ x ∈ ns
theorem Uni.one {ws vs ns ms : List Int} (a : Uni ws ns) (b : Uni vs ms) (p : ns.Perm ms) : ws = vs := by
  refine PySem.W.os_sorted_one ((List.perm_ext_iff_of_nodup ?_ ?_).mpr fun x => ?_) (a.1.imp Int.le_of_lt) (b.1.imp Int.le_of_lt)
  · exact a.1.imp fun h => Int.ne_of_lt h
  · exact b.1.imp fun h => Int.ne_of_lt h
  · rw [a.2, b.2, p.mem_iff]
/-- couples of numbers at ps -/
def Cpl (H : Hp) (ps : List Addr) (ks : List (Int × Int)) : Prop := ps.length = ks.length ∧ ∀ (i : Nat) (p : Addr) (k : Int × Int), ps[i]? = some p → ks[i]? = some k → H p = some (.tup [.int k.1, .int k.2])
theorem Cpl.same {H H' : Hp} {ps : List Addr} {ks : List (Int × Int)} (c : Cpl H ps ks) (s : Same H H') : Cpl H' ps ks := ⟨c.1, fun i p k a b => s _ _ (c.2 i p k a b)⟩
theorem Cpl.nil {H : Hp} : Cpl H [] [] := ⟨rfl, fun i p k a _ => by cases a⟩
theorem Cpl.snoc {H : Hp} {ps : List Addr} {ks : List (Int × Int)} {p : Addr} {k : Int × Int} (c : Cpl H ps ks) (h : H p = some (.tup [.int k.1, .int k.2])) : Cpl H (ps ++ [p]) (ks ++ [k]) := by
  refine ⟨by rw [List.length_append, List.length_append, c.1]; rfl, fun i q j a b => ?_⟩
  rcases Nat.lt_or_ge i ps.length with g | g
  · rw [List.getElem?_append_left g] at a
    rw [List.getElem?_append_left (c.1 ▸ g)] at b
    exact c.2 i q j a b
  · rw [List.getElem?_append_right g] at a
    rw [List.getElem?_append_right (c.1 ▸ g), ← c.1] at b
    cases e : i - ps.length with
    | zero =>
      rw [e] at a b
      cases a
      cases b
      exact h
    | succ n =>
      rw [e] at a
      cases a
theorem uni_len : ∀ {ws ns : List Int}, Uni ws ns → ws.length ≤ ns.length
  | [], _, _ => Nat.zero_le _
  | w :: ws, ns, u => by
    obtain ⟨h1, h2⟩ := List.pairwise_cons.mp u.1
    have hm : w ∈ ns := (u.2 w).mp List.mem_cons_self
    have u2 : Uni ws (ns.filter fun x => decide (x ≠ w)) := ⟨h2, fun x => by
      rw [List.mem_filter, ← u.2 x, List.mem_cons, decide_eq_true_eq]
      constructor
      · intro hx
        exact ⟨.inr hx, fun e => by have := h1 x hx; omega⟩
      · rintro ⟨hx | hx, n⟩
        · exact absurd hx n
        · exact hx⟩
    have := uni_len u2
    have l2 : (ns.filter fun x => decide (x ≠ w)).length < ns.length := by
      rcases Nat.lt_or_ge (ns.filter fun x => decide (x ≠ w)).length ns.length with g | g
      · exact g
      · have e := List.length_filter_eq_length_iff.mp (Nat.le_antisymm (List.length_filter_le _ _) g) w hm
        simp at e
    rw [List.length_cons]
    omega
def cnt (ws ns : List Int) : List (Int × Int) := ws.map fun w => (w, (ns.count w : Int))
def sp_counted (_ : PySem.W.Frag) : Sp := fun vs H Q _ => ∃ (a : Addr) (ns : List Int), vs = [.ref a] ∧ TupN H a (ns.map V.int) ∧ ns.length ≤ 12 ∧
  ∀ (H' : Hp) (b : Addr) (ps : List Addr) (ws : List Int), Same H H' → H' b = some (.tup (ps.map V.ref)) → Uni ws ns → Cpl H' ps (cnt ws ns) → ws.length ≤ 12 → Q (.ref b) H'
theorem len_counted {vs H Q E} (h : sp_counted K vs H Q E) : vs.length = 1 := by
  obtain ⟨_, _, rfl, _⟩ := h; rfl
theorem ok_counted {f : Addr} {fd : FuncData} (F : Fun K "counted" "counted" s_counted f fd) (T : Txt K mg cBadPool cBadPeople cBadPerson cBadAmount) : FnOk P w K mg base CX0 1 f fd ps_counted (sp_counted K) := by
  refine F.ok (k := 0) sc_counted (fun vs H Q E h => len_counted h) (fun cdv A outer s H vs Q E hr h => ?_)
  refine ⟨_, (pss_one (ps_ret (pe_callTy call_tuple_of (by rfl) T.n_tuple (by decide +kernel) (pa_cons (pe_lc (own := [("worth", 1)]) (g := gName 1) (tt := tYes) rfl sc_counted.nd (pi_list (pe_callB (cr_srtSet rfl) (by rfl) T.n_sorted (by decide +kernel) (pa_cons (pe_callTy (cr_setOf rfl) (by rfl) T.n_set (by decide +kernel) (pa_cons (pv 0) pa_nil)) pa_nil))) (blkOk_by (N := nm_counted) (sc := defScope s_counted) (by decide +kernel)) (fun _ _ _ _ _ => (pg_name (i := 1) sc_counted.nd rfl (Or.inl rfl))) (fun _ _ _ _ _ => pts_nil) (fun _ _ _ _ _ => (pe_tup (pa_cons (pv 1) (pa_cons (pe_tm PySem.F.plainAttrs_tuple PySem.F.slot_tuple_count PySem.F.type_tuple_count (mt_tcountK (K := K) rfl) (pv 0) (pa_cons (pv 1) pa_nil)) pa_nil))))) pa_nil)))), ?_⟩
  obtain ⟨a, ns, rfl, ha, hl, k⟩ := h
  simp only [tSeq, tAsg, tDrop, tRet, tRetN, tIfS, tNext, tTest, tB, tNot, tAnd, tOr, tChain, tIf, tAndV, tOrV, tNotV, tOp, tUn, tCB, tCons, tNil, tVar, tC, tCall, tCallS, gName, rI, rI0, rU, rEq, rNe, tTup, tLst, gSub, rSetL, rIxL, rIxT, L2.start, List.map_cons, List.map_nil, List.length_cons, List.length_nil, Nat.reduceAdd, Nat.reduceSub, List.replicate_succ, List.replicate_zero, List.getElem?_cons_zero, List.getElem?_cons_succ, List.set_cons_zero, List.set_cons_succ, Option.some.injEq, exists_eq_left', exists_eq_left, exists_and_left, V.int.injEq, V.bl.injEq, V.ref.injEq, V.str.injEq, List.cons.injEq, and_true, true_and, List.nil_append, List.cons_append, List.append_nil, reduceCtorEq, false_and, exists_false, or_false, false_or, and_false, Int.reduceNeg, decide_eq_true_eq, Bool.not_eq_true', decide_eq_false_iff_not, and_assoc, tYes, ↓reduceIte, wipe, Bool.false_eq_true, Bool.true_eq_false, cxOf, false_implies, true_implies, implies_true, forall_const, rSetOf, rSrtSet]
  refine ⟨_, rfl, a, ns, rfl, .inr ha.sq, by omega, fun u c hu => ⟨u, _, _, rfl, upd_same, fun ws v wp wm hv => ⟨v, rfl, ⟨_, SqL.of upd_same⟩, fun D hD => ?_⟩⟩⟩
  have s1 := (Same.new (o := SetO w u (fun j => decide (j ∈ ns)) c) hu).trans (Same.new (o := HO.lst (ws.map V.int)) hv)
  have ev : upd (upd H u (SetO w u (fun j => decide (j ∈ ns)) c)) v (HO.lst (ws.map V.int)) v = some (.lst (ws.map V.int)) := upd_same
  generalize upd (upd H u (SetO w u (fun j => decide (j ∈ ns)) c)) v (HO.lst (ws.map V.int)) = H1 at s1 ev hD ⊢
  have un : Uni ws ns := ⟨wp, fun x => by rw [wm]; exact decide_eq_true_iff⟩
  have wl : ws.length ≤ 12 := Nat.le_trans (uni_len un) hl
  refine lc_list (K := K) (a := v) (xs := ws.map V.int) (fun i h' => ∃ ps : List Addr, Same H1 h' ∧ h' D = some (.lst (ps.map V.ref)) ∧ Cpl h' ps (cnt (ws.take i) ns)) ⟨[], Same.new hD, upd_same, Cpl.nil⟩ (fun i h' _ ⟨_, s, _⟩ => SqL.of (s _ _ ev)) ?_ ?_
  · rintro i z h' hi ⟨ps, s3, eD, cp⟩
    obtain ⟨g, hg, rfl⟩ := nat_map hi
    have il := (List.getElem?_eq_some_iff.mp hg).1
    simp only [tSeq, tAsg, tDrop, tRet, tRetN, tIfS, tNext, tTest, tB, tNot, tAnd, tOr, tChain, tIf, tAndV, tOrV, tNotV, tOp, tUn, tCB, tCons, tNil, tVar, tC, tCall, tCallS, gName, rI, rI0, rU, rEq, rNe, tTup, tLst, gSub, rSetL, rIxL, rIxT, L2.start, List.map_cons, List.map_nil, List.length_cons, List.length_nil, Nat.reduceAdd, Nat.reduceSub, List.replicate_succ, List.replicate_zero, List.getElem?_cons_zero, List.getElem?_cons_succ, List.set_cons_zero, List.set_cons_succ, Option.some.injEq, exists_eq_left', exists_eq_left, exists_and_left, V.int.injEq, V.bl.injEq, V.ref.injEq, V.str.injEq, List.cons.injEq, and_true, true_and, List.nil_append, List.cons_append, List.append_nil, reduceCtorEq, false_and, exists_false, or_false, false_or, and_false, Int.reduceNeg, decide_eq_true_eq, Bool.not_eq_true', decide_eq_false_iff_not, and_assoc, tYes, ↓reduceIte, wipe, Bool.false_eq_true, Bool.true_eq_false, cxOf, false_implies, true_implies, implies_true, forall_const, tTM, rCntT]
    have hn := ha.same (s1.trans s3)
    refine ⟨⟨_, hn⟩, ns, hn.sq, by decide, fun t ht => ?_⟩
    have st := Same.new (o := HO.tup [V.int g, V.int (List.count g ns : Nat)]) ht
    have nt : t ≠ D := fun e => by rw [e, eD] at ht; cases ht
    refine ⟨_, st _ _ eD, ?_, fun b o e => ?_, ps ++ [t], ?_, ?_⟩
    · have := cp.1
      unfold cnt at this
      rw [List.length_map, List.length_take] at this
      rw [List.length_map]
      exact small1000 (by omega)
    · rw [upd_ne (ne_of_none e hD)]
      exact st _ _ (s3 b o e)
    · rw [upd_same, List.map_append]
      rfl
    · have e : cnt (ws.take (i + 1)) ns = cnt (ws.take i) ns ++ [(g, (ns.count g : Int))] := by
        unfold cnt
        rw [List.take_add_one, hg, List.map_append]
        rfl
      rw [e]
      refine Cpl.snoc ⟨cp.1, fun j p k a b => ?_⟩ ?_
      · have z := st _ _ (cp.2 j p k a b)
        rw [upd_ne (fun e => by have y := cp.2 j p k a b; rw [e, eD] at y; cases y)]
        exact z
      · rw [upd_ne nt]
        exact upd_same
  · rintro h' ⟨ps, s3, eD, cp⟩
    rw [List.length_map, List.take_length] at cp
    refine ⟨D, rfl, _, .inl ⟨SqL.of eD, fun l hl0 => k _ l ps ws (s1.trans (s3.trans (Same.new hl0))) upd_same un (cp.same (Same.new hl0)) wl⟩⟩
def sp_counted_coins (_ : PySem.W.Frag) (cB : Addr) : Sp := fun vs H Q E => ∃ x : V, vs = [x] ∧ Arg H x ∧ PoolBad cB x H E ∧ ∀ a ns, PoolOk H x a ns →
  ∀ (H' : Hp) (b : Addr) (ps : List Addr) (ws : List Int), Same H H' → H' b = some (.tup (ps.map V.ref)) → Uni ws ns → Cpl H' ps (cnt ws ns) → ws.length ≤ 12 → Q (.ref b) H'
theorem len_counted_coins {vs H Q E} (h : sp_counted_coins K cBadPool vs H Q E) : vs.length = 1 := by
  obtain ⟨_, rfl, _⟩ := h; rfl
theorem ok_counted_coins {f : Addr} {fd : FuncData} (F : Fun K "counted_coins" "counted_coins" s_counted_coins f fd) (T : Txt K mg cBadPool cBadPeople cBadPerson cBadAmount) : FnOk P w K mg base (L2.CX P w) 4 f fd ps_counted_coins (sp_counted_coins K cBadPool) := by
  obtain ⟨f_counted, fd_counted, F_counted, m_counted, b_counted⟩ := T.d_counted
  have G_counted : FnOk P w K mg base CX0 1 f_counted fd_counted ps_counted (sp_counted K) := ok_counted F_counted T
  obtain ⟨f_check_pool, fd_check_pool, F_check_pool, m_check_pool, b_check_pool⟩ := T.d_check_pool
  have G_check_pool : FnOk P w K mg base (L2.CX P w) 3 f_check_pool fd_check_pool ps_check_pool (sp_check_pool K cBadPool) := ok_check_pool F_check_pool T
  refine F.okX (k := 3) sc_counted_coins (fun vs H Q E h => len_counted_coins h) (fun cdv A outer s H vs Q E hr h => ?_)
  refine ⟨_, (pss_one (ps_ret (pe_call G_counted (hr.mono (by decide)) (by rfl) m_counted F_counted.kp b_counted .nil pass0 (pa_cons (pe_call G_check_pool (hr.mono (by decide)) (by rfl) m_check_pool F_check_pool.kp b_check_pool .nil (passes_call (takes_of rfl rfl rfl rfl) fun _ _ _ _ z => z) (pa_cons (pv 0) pa_nil)) pa_nil)))), ?_⟩
  obtain ⟨x, rfl, hx, q1, q2⟩ := h
  simp only [tSeq, tAsg, tDrop, tRet, tRetN, tIfS, tNext, tTest, tB, tNot, tAnd, tOr, tChain, tIf, tAndV, tOrV, tNotV, tOp, tUn, tCB, tCons, tNil, tVar, tC, tCall, tCallS, gName, rI, rI0, rU, rEq, rNe, tTup, tLst, gSub, rSetL, rIxL, rIxT, L2.start, List.map_cons, List.map_nil, List.length_cons, List.length_nil, Nat.reduceAdd, Nat.reduceSub, List.replicate_succ, List.replicate_zero, List.getElem?_cons_zero, List.getElem?_cons_succ, List.set_cons_zero, List.set_cons_succ, Option.some.injEq, exists_eq_left', exists_eq_left, exists_and_left, V.int.injEq, V.bl.injEq, V.ref.injEq, V.str.injEq, List.cons.injEq, and_true, true_and, List.nil_append, List.cons_append, List.append_nil, reduceCtorEq, false_and, exists_false, or_false, false_or, and_false, Int.reduceNeg, decide_eq_true_eq, Bool.not_eq_true', decide_eq_false_iff_not, and_assoc, tYes, ↓reduceIte, wipe, Bool.false_eq_true, Bool.true_eq_false, cxOf, false_implies, true_implies, implies_true, forall_const]
  refine bad_ok2 hx q1 fun a ns o H1 c ks s1 e1 p1 p2 => ⟨c, ks, rfl, e1, by rw [p1.length_eq]; exact o.2.2.1, fun H2 b ps ws s2 eb u cp wl => ?_⟩
  have e : cnt ws ks = cnt ws ns := by
    unfold cnt
    congr 1
    funext w
    rw [p1.count_eq]
  rw [e] at cp
  exact q2 a ns o H2 b ps ws (s1.trans s2) eb ⟨u.1, fun x => by rw [u.2, p1.mem_iff]⟩ cp wl
end
end My
set_option Elab.async false
set_option linter.all false
set_option maxRecDepth 100000
set_option maxHeartbeats 4000000
namespace My
open PySem PySem.Spec PyProof.Rows L2 Gen
section
variable {P : Program} {w : World} {K : PySem.W.Frag} {mg : Str → Option Value} {base : Heap} { cBadPool cBadPeople cBadPerson cBadAmount : Addr}
theorem shaped_tupI (ns : List Int) : SeqAt.shaped (.tuple (ns.map PyData.int)) = true := by
  have d1 := PySem.W.depthAll_ints ns
  have d2 : PyData.depth (.tuple (ns.map PyData.int)) ≤ 64 := by simp only [PyData.depth]; omega
  show (PyData.canLay0 (.tuple (ns.map PyData.int)) && decide (PyData.depth (.tuple (ns.map PyData.int)) ≤ 64)) = true
  rw [Bool.and_eq_true]
  exact ⟨by simp only [PyData.canLay0]; exact PySem.W.canLayAll0_ints ns, decide_eq_true d2⟩
theorem eqvAll_dec : ∀ ns ms : List Int, PyData.eqvAll (ns.map PyData.int) (ms.map PyData.int) = decide (ns = ms)
  | [], [] => by simp [PyData.eqvAll]
  | [], _ :: _ => by simp [PyData.eqvAll]
  | _ :: _, [] => by simp [PyData.eqvAll]
  | n :: ns, m :: ms => by
    simp only [List.map_cons, PyData.eqvAll, PyData.eqv, eqvAll_dec ns ms]
    by_cases e : n = m <;> simp [e]
/-- two tuples of numbers -/
theorem eq_tupI {H : Hp} {a b : Addr} {ns ms : List Int} {Q : VK} (ha : H a = some (.tup (ns.map V.int))) (hb : H b = some (.tup (ms.map V.int))) (q : Q (.bl (decide (ns = ms))) H) : rEqD K (.ref a) (.ref b) H Q := by
  refine ⟨_, _, .tup (SqT.of ha) (dp_ints ns), .tup (SqT.of hb) (dp_ints ms), shaped_tupI ns, shaped_tupI ms, ?_⟩
  rw [show PyData.eqv (.tuple (ns.map PyData.int)) (.tuple (ms.map PyData.int)) = decide (ns = ms) by simp only [PyData.eqv]; exact eqvAll_dec ns ms]
  exact q
theorem ne_tupI {H : Hp} {a b : Addr} {ns ms : List Int} {Q : VK} (ha : H a = some (.tup (ns.map V.int))) (hb : H b = some (.tup (ms.map V.int))) (q : Q (.bl (!decide (ns = ms))) H) : rNeD K (.ref a) (.ref b) H Q := by
  refine ⟨_, _, .tup (SqT.of ha) (dp_ints ns), .tup (SqT.of hb) (dp_ints ms), shaped_tupI ns, shaped_tupI ms, ?_⟩
  rw [show PyData.eqv (.tuple (ns.map PyData.int)) (.tuple (ms.map PyData.int)) = decide (ns = ms) by simp only [PyData.eqv]; exact eqvAll_dec ns ms]
  exact q
theorem eq_listI {H : Hp} {a b : Addr} {ns ms : List Int} {Q : VK} (ha : SqL K H a (ns.map V.int)) (hb : SqL K H b (ms.map V.int)) (q : Q (.bl (decide (ns = ms))) H) : rEqD K (.ref a) (.ref b) H Q := by
  refine ⟨_, _, .lst ha (dp_ints ns), .lst hb (dp_ints ms), PySem.W.shaped_ints ns, PySem.W.shaped_ints ms, ?_⟩
  rw [show PyData.eqv (.list (ns.map PyData.int)) (.list (ms.map PyData.int)) = decide (ns = ms) by simp only [PyData.eqv]; exact eqvAll_dec ns ms]
  exact q
theorem ne_listI {H : Hp} {a b : Addr} {ns ms : List Int} {Q : VK} (ha : SqL K H a (ns.map V.int)) (hb : SqL K H b (ms.map V.int)) (q : Q (.bl (!decide (ns = ms))) H) : rNeD K (.ref a) (.ref b) H Q := by
  refine ⟨_, _, .lst ha (dp_ints ns), .lst hb (dp_ints ms), PySem.W.shaped_ints ns, PySem.W.shaped_ints ms, ?_⟩
  rw [show PyData.eqv (.list (ns.map PyData.int)) (.list (ms.map PyData.int)) = decide (ns = ms) by simp only [PyData.eqv]; exact eqvAll_dec ns ms]
  exact q
theorem cut_to (ns : List Int) (j : Nat) : cutV (ns.map V.int) none (some (j : Int)) = (ns.take j).map V.int := by
  unfold cutV
  rw [HT.sIx_none, HT.sIx_nat, List.length_map, List.drop_zero, Nat.sub_zero, ← List.map_take]
  congr 1
  rw [Nat.min_def]
  split
  · rfl
  · rw [List.take_length, List.take_of_length_le (by omega)]
theorem cut_from (ns : List Int) (j : Nat) : cutV (ns.map V.int) (some ((j : Int) + 1)) none = (ns.drop (j + 1)).map V.int := by
  unfold cutV
  have e : (j : Int) + 1 = ((j + 1 : Nat) : Int) := by omega
  rw [e, HT.sIx_none, HT.sIx_nat, List.length_map, ← List.map_drop, ← List.map_take]
  congr 1
  rw [Nat.min_def]
  split
  · rw [List.take_of_length_le (by rw [List.length_drop]; omega)]
  · rw [List.drop_length, List.drop_eq_nil_of_le (by omega), List.take_nil]
theorem mem_cut {ns : List Int} {j m : Nat} {x : Int} (h : x ∈ ns.take j ++ ns.drop m) : x ∈ ns := by
  rcases List.mem_append.mp h with h | h
  · exact List.mem_of_mem_take h
  · exact List.mem_of_mem_drop h
theorem handOffq {H : Hp} {h q p : Addr} (x : HandAt H h q) (hp : H p = none) : p ≠ q := by
  obtain ⟨cs, i, r, t, _, h2, _⟩ := x.ex
  exact fun z => by rw [z, h2] at hp; cases hp
theorem handPut {H : Hp} {h q p : Addr} {o : HO} (x : HandAt H h q) (n1 : p ≠ h) (n2 : p ≠ q) : HandAt (upd H p o) h q := by
  obtain ⟨cs, i, r, t, h1, h2, m⟩ := x.ex
  exact ⟨cs, i, r, t, by rw [upd_ne (Ne.symm n1)]; exact h1, by rw [upd_ne (Ne.symm n2)]; exact h2, m⟩
/-- what stood stands, but for the hand, when a new thing changes -/
theorem butAt {h D : Addr} {H H' : Hp} {o : HO} (b : But h H H') (hD : H D = none) : But h H (upd H' D o) := fun c u e n => by
  rw [upd_ne (ne_of_none e hD)]
  exact b c u e n
/-- a list of coins that a def hands over, with the hand as a hand -/
def Gives (h q : Addr) (n : Nat) (H : Hp) (Q : VK) : Prop := ∀ (H' : Hp) (b : Addr) (ms : List Int), HandAt H' h q → But h H H' → H' b = some (.lst (ms.map V.int)) → b ≠ h → ms.length ≤ n → (∀ m, m ∈ ms → 1 ≤ m ∧ m ≤ 1000000000) → Q (.ref b) H'
theorem sum_box {B : Int} (B0 : 0 ≤ B) : ∀ {ms : List Int}, (∀ m, m ∈ ms → 0 ≤ m ∧ m ≤ B) → 0 ≤ ms.sum ∧ ms.sum ≤ B * ms.length
  | [], _ => ⟨Int.le_refl 0, by simp⟩
  | m :: ms, h => by
    have a := h m List.mem_cons_self
    have b := sum_box B0 fun x hx => h x (List.mem_cons_of_mem _ hx)
    have e : B * ((ms.length + 1 : Nat) : Int) = B * ms.length + B := by
      rw [Int.natCast_add, Int.mul_add]
      simp
    rw [List.sum_cons, List.length_cons, e]
    omega
theorem small300 {n : Nat} (h : n ≤ 300) : n ≤ sizeLine := Nat.le_of_lt (Nat.lt_of_le_of_lt h (by decide))
theorem put_sum {ms : List Int} {e : Nat} {g : Int} : (ms.take e ++ [g] ++ ms.drop e).sum = ms.sum + g := by
  have es : (ms.take e).sum + (ms.drop e).sum = ms.sum := by rw [← List.sum_append, List.take_append_drop]
  rw [List.sum_append, List.sum_append]
  simp
  omega
theorem put_perm {ms : List Int} {e : Nat} {g : Int} : (ms.take e ++ [g] ++ ms.drop e).Perm (ms ++ [g]) := by
  have z : (ms.take e ++ ([g] ++ ms.drop e)).Perm (ms.take e ++ (ms.drop e ++ [g])) := (List.perm_append_comm (l₁ := [g]) (l₂ := ms.drop e)).append_left _
  rwa [← List.append_assoc, ← List.append_assoc, List.take_append_drop] at z
/-- sorted coins that a def hands over, with the hand as a hand -/
def GivesS (h q : Addr) (n : Nat) (H : Hp) (Q : VK) : Prop := ∀ (H' : Hp) (b : Addr) (ms : List Int), HandAt H' h q → But h H H' → H' b = some (.lst (ms.map V.int)) → b ≠ h → ms.length ≤ n → (∀ m, m ∈ ms → 1 ≤ m ∧ m ≤ 1000000000) → ms.Pairwise (· ≤ ·) → Q (.ref b) H'
end
end My
set_option Elab.async false
set_option linter.all false
set_option maxRecDepth 100000
set_option maxHeartbeats 4000000
namespace My
open PySem PySem.Spec PyProof.Rows L2 Gen
section
variable {P : Program} {w : World} {K : PySem.W.Frag} {mg : Str → Option Value} {base : Heap} { cBadPool cBadPeople cBadPerson cBadAmount : Addr}
/-- what is free behind was free before -/
theorem but_free {h q p : Addr} {H H' : Hp} (b : But h H H') (hd : HandAt H' h q) (hp : H' p = none) : H p = none := by
  have n := hd.off hp
  cases z : H p with
  | none => rfl
  | some o =>
    have y := b _ _ z n
    rw [hp] at y
    cases y
theorem max_box {d e : Int} (d0 : 0 ≤ d) (d1 : d < 12 + 1) (e0 : 0 ≤ e) (e1 : e < 12 + 1) : 0 ≤ (if e > d then e else d) ∧ (if e > d then e else d) ≤ 12 := by
  split <;> exact ⟨by omega, by omega⟩
abbrev sp_l_big (_ : PySem.W.Frag) : Sp := spDraw
theorem len_l_big {vs H Q E} (h : sp_l_big K vs H Q E) : vs.length = 2 := by
  obtain ⟨_, _, _, rfl, _⟩ := h; rfl
theorem ok_l_big {f : Addr} {fd : FuncData} (F : Fun K "_law_big" "_law_big" s_l_big f fd) (T : Txt K mg cBadPool cBadPeople cBadPerson cBadAmount) : FnOk P w K mg base CX0 3 f fd ps_l_big (sp_l_big K) := by
  obtain ⟨f_l_draw, fd_l_draw, F_l_draw, m_l_draw, b_l_draw⟩ := T.d_l_draw
  have G_l_draw : FnOk P w K mg base CX0 2 f_l_draw fd_l_draw ps_l_draw (sp_l_draw K) := ok_l_draw F_l_draw T
  refine F.ok (k := 2) sc_l_big (fun vs H Q E h => len_l_big h) (fun cdv A outer s H vs Q E hr h => ?_)
  refine ⟨_, (pss_cons (ps_set (i := 2) sc_l_big.nd rfl (Or.inl rfl) pe_int)
      (pss_cons (ps_for PassesOwn.never rfl (pi_range1 (by rfl) T.n_range (pa_cons pe_int pa_nil)) (pg_name (i := 3) sc_l_big.nd rfl (Or.inl rfl))
      (pss_one (ps_set (i := 2) sc_l_big.nd rfl (Or.inl rfl) (pe_op op_add (pe_op op_mul (pv 2) pe_int) (pe_call G_l_draw (hr.mono (by decide)) (by rfl) m_l_draw F_l_draw.kp b_l_draw .nil pass0 (pa_cons (pv 0) (pa_cons pe_int pa_nil)))))))
      (pss_one (ps_ret (pe_op op_mod (pe_callTy call_int1 (by rfl) T.n_int (by decide +kernel) (pa_cons (pv 2) pa_nil)) (pv 1)))))), ?_⟩
  obtain ⟨h, q, m, rfl, hh, m0, m1, k⟩ := h
  simp only [tSeq, tAsg, tDrop, tRet, tRetN, tIfS, tNext, tTest, tB, tNot, tAnd, tOr, tChain, tIf, tAndV, tOrV, tNotV, tOp, tUn, tCB, tCons, tNil, tVar, tC, tCall, tCallS, gName, rI, rI0, rU, rEq, rNe, tTup, tLst, gSub, rSetL, rIxL, rIxT, L2.start, List.map_cons, List.map_nil, List.length_cons, List.length_nil, Nat.reduceAdd, Nat.reduceSub, List.replicate_succ, List.replicate_zero, List.getElem?_cons_zero, List.getElem?_cons_succ, List.set_cons_zero, List.set_cons_succ, Option.some.injEq, exists_eq_left', exists_eq_left, exists_and_left, V.int.injEq, V.bl.injEq, V.ref.injEq, V.str.injEq, List.cons.injEq, and_true, true_and, List.nil_append, List.cons_append, List.append_nil, reduceCtorEq, false_and, exists_false, or_false, false_or, and_false, Int.reduceNeg, decide_eq_true_eq, Bool.not_eq_true', decide_eq_false_iff_not, and_assoc, tYes, ↓reduceIte, wipe, Bool.false_eq_true, Bool.true_eq_false, cxOf, false_implies, true_implies, implies_true, forall_const]
  refine ⟨_, rfl, by decide, by decide, for_range (lo := 0) (n := 4) (fun i z h' => ∃ (n : Int) (v : Option V), z = [some (.ref h), some (.int m), some (.int n), v] ∧ HandAt h' h q ∧ But h H h' ∧ 0 ≤ n) ⟨0, none, rfl, hh, But.refl h H, Int.le_refl 0⟩ ?_ ?_⟩
  · rintro i z h' hi ⟨n, v, rfl, hd, b, n0⟩
    simp only [tSeq, tAsg, tDrop, tRet, tRetN, tIfS, tNext, tTest, tB, tNot, tAnd, tOr, tChain, tIf, tAndV, tOrV, tNotV, tOp, tUn, tCB, tCons, tNil, tVar, tC, tCall, tCallS, gName, rI, rI0, rU, rEq, rNe, tTup, tLst, gSub, rSetL, rIxL, rIxT, L2.start, List.map_cons, List.map_nil, List.length_cons, List.length_nil, Nat.reduceAdd, Nat.reduceSub, List.replicate_succ, List.replicate_zero, List.getElem?_cons_zero, List.getElem?_cons_succ, List.set_cons_zero, List.set_cons_succ, Option.some.injEq, exists_eq_left', exists_eq_left, exists_and_left, V.int.injEq, V.bl.injEq, V.ref.injEq, V.str.injEq, List.cons.injEq, and_true, true_and, List.nil_append, List.cons_append, List.append_nil, reduceCtorEq, false_and, exists_false, or_false, false_or, and_false, Int.reduceNeg, decide_eq_true_eq, Bool.not_eq_true', decide_eq_false_iff_not, and_assoc, tYes, ↓reduceIte, wipe, Bool.false_eq_true, Bool.true_eq_false, cxOf, false_implies, true_implies, implies_true, forall_const, spDraw]
    refine ⟨cmr (by decide) (by decide), q, hd, by decide, by decide, fun d H1 d0 d1 hd1 b1 => ⟨hd1, b.trans b1, by omega⟩⟩
  · rintro z h' ⟨n, v, rfl, hd, b, n0⟩
    simp only [tSeq, tAsg, tDrop, tRet, tRetN, tIfS, tNext, tTest, tB, tNot, tAnd, tOr, tChain, tIf, tAndV, tOrV, tNotV, tOp, tUn, tCB, tCons, tNil, tVar, tC, tCall, tCallS, gName, rI, rI0, rU, rEq, rNe, tTup, tLst, gSub, rSetL, rIxL, rIxT, L2.start, List.map_cons, List.map_nil, List.length_cons, List.length_nil, Nat.reduceAdd, Nat.reduceSub, List.replicate_succ, List.replicate_zero, List.getElem?_cons_zero, List.getElem?_cons_succ, List.set_cons_zero, List.set_cons_succ, Option.some.injEq, exists_eq_left', exists_eq_left, exists_and_left, V.int.injEq, V.bl.injEq, V.ref.injEq, V.str.injEq, List.cons.injEq, and_true, true_and, List.nil_append, List.cons_append, List.append_nil, reduceCtorEq, false_and, exists_false, or_false, false_or, and_false, Int.reduceNeg, decide_eq_true_eq, Bool.not_eq_true', decide_eq_false_iff_not, and_assoc, tYes, ↓reduceIte, wipe, Bool.false_eq_true, Bool.true_eq_false, cxOf, false_implies, true_implies, implies_true, forall_const]
    exact ⟨m0, k _ h' (Int.emod_nonneg n (by omega)) (Int.emod_lt_of_pos n m0) hd b⟩
def sp_l_whole (_ : PySem.W.Frag) : Sp := fun vs H Q _ => ∃ x : V, vs = [x] ∧ Plain H x ∧ Q (.bl (isI x)) H
theorem len_l_whole {vs H Q E} (h : sp_l_whole K vs H Q E) : vs.length = 1 := by
  obtain ⟨_, rfl, _⟩ := h; rfl
theorem ok_l_whole {f : Addr} {fd : FuncData} (F : Fun K "_law_whole" "_law_whole" s_l_whole f fd) (T : Txt K mg cBadPool cBadPeople cBadPerson cBadAmount) : FnOk P w K mg base CX0 1 f fd ps_l_whole (sp_l_whole K) := by
  refine F.ok (k := 0) sc_l_whole (fun vs H Q E h => len_l_whole h) (fun cdv A outer s H vs Q E hr h => ?_)
  refine ⟨_, (pss_one (ps_ret (pe_and (pe_callB call_isi (by rfl) T.n_isinstance (by decide +kernel) (pa_cons (pv 0) (pa_cons (pe_bltn (v := .ty "int") (by rfl) T.n_int (by decide +kernel) rfl) pa_nil))) (pe_one (pe_not (pe_callB call_isi (by rfl) T.n_isinstance (by decide +kernel) (pa_cons (pv 0) (pa_cons (pe_bltn (v := .ty "bool") (by rfl) T.n_bool (by decide +kernel) rfl) pa_nil)))))))), ?_⟩
  obtain ⟨x, rfl, hp, q⟩ := h
  simp only [tSeq, tAsg, tDrop, tRet, tRetN, tIfS, tNext, tTest, tB, tNot, tAnd, tOr, tChain, tIf, tAndV, tOrV, tNotV, tOp, tUn, tCB, tCons, tNil, tVar, tC, tCall, tCallS, gName, rI, rI0, rU, rEq, rNe, tTup, tLst, gSub, rSetL, rIxL, rIxT, L2.start, List.map_cons, List.map_nil, List.length_cons, List.length_nil, Nat.reduceAdd, Nat.reduceSub, List.replicate_succ, List.replicate_zero, List.getElem?_cons_zero, List.getElem?_cons_succ, List.set_cons_zero, List.set_cons_succ, Option.some.injEq, exists_eq_left', exists_eq_left, exists_and_left, V.int.injEq, V.bl.injEq, V.ref.injEq, V.str.injEq, List.cons.injEq, and_true, true_and, List.nil_append, List.cons_append, List.append_nil, reduceCtorEq, false_and, exists_false, or_false, false_or, and_false, Int.reduceNeg, decide_eq_true_eq, Bool.not_eq_true', decide_eq_false_iff_not, and_assoc, tYes, ↓reduceIte, wipe, Bool.false_eq_true, Bool.true_eq_false, cxOf, false_implies, true_implies, implies_true, forall_const]
  refine isi_int hp ?_
  cases x with
  | int i => exact ⟨true, rfl, iteT (isi_bool hp ⟨false, rfl, q⟩)⟩
  | bl i => exact ⟨true, rfl, iteT (isi_bool hp ⟨true, rfl, q⟩)⟩
  | _ => exact ⟨false, rfl, iteF q⟩
theorem isi_rd {H : Hp} {a : Addr} {xs : List V} {Q : VK} (h : Rd H a (.tup xs)) (q : Q (.bl true) H) : rIsi K [.ref a, .ty "tuple"] H Q := by
  rcases h with h | ⟨o, h⟩
  · exact isi_tuple h q
  · exact ⟨_, _, _, _, true, rfl, .ty _, .fTuple h, kit_ty (by decide +kernel), q⟩
theorem rd_same {H H' : Hp} {a : Addr} {u : HO} (h : Rd H a u) (s : Same H H') : Rd H' a u := h.elim (fun e => .inl (s _ _ e)) fun ⟨o, e⟩ => .inr ⟨o, s _ _ e⟩
def sp_l_lot_like (_ : PySem.W.Frag) : Sp := fun vs H Q _ => ∃ (a : Addr) (zs : List Int), vs = [.ref a] ∧ Rd H a (.tup (zs.map V.int)) ∧ zs.length ≤ 12 ∧ (∀ n, n ∈ zs → 1 ≤ n) ∧ zs.Pairwise (· ≤ ·) ∧ ∀ H', Same H H' → Q (.bl true) H'
theorem len_l_lot_like {vs H Q E} (h : sp_l_lot_like K vs H Q E) : vs.length = 1 := by
  obtain ⟨_, _, rfl, _⟩ := h; rfl
theorem ok_l_lot_like {f : Addr} {fd : FuncData} (F : Fun K "_law_lot_like" "_law_lot_like" s_l_lot_like f fd) (T : Txt K mg cBadPool cBadPeople cBadPerson cBadAmount) : FnOk P w K mg base CX0 2 f fd ps_l_lot_like (sp_l_lot_like K) := by
  obtain ⟨f_l_whole, fd_l_whole, F_l_whole, m_l_whole, b_l_whole⟩ := T.d_l_whole
  have G_l_whole : FnOk P w K mg base CX0 1 f_l_whole fd_l_whole ps_l_whole (sp_l_whole K) := ok_l_whole F_l_whole T
  refine F.ok (k := 1) sc_l_lot_like (fun vs H Q E h => len_l_lot_like h) (fun cdv A outer s H vs Q E hr h => ?_)
  refine ⟨_, (pss_cons (ps_if (PW.pt (pw_or (pt_not (pt_val (pe_callB call_isi (by rfl) T.n_isinstance (by decide +kernel) (pa_cons (pv 0) (pa_cons (pe_bltn (v := .ty "tuple") (by rfl) T.n_tuple (by decide +kernel) rfl) pa_nil))))) (pw_or1 (pt_not (pt_val (pe_callB (cr_all rfl) (by rfl) T.n_all (by decide +kernel) (pa_cons (pe_lc (own := [("_law_coin", 1)]) (g := gName 1) (tt := tYes) rfl sc_l_lot_like.nd (pi_tup (pv 0)) (blkOk_by (N := nm_l_lot_like) (sc := defScope s_l_lot_like) (by decide +kernel)) (fun _ _ _ _ _ => (pg_name (i := 1) sc_l_lot_like.nd rfl (Or.inl rfl))) (fun _ _ _ _ _ => pts_nil) (fun _ _ _ _ _ => (pe_and (pe_call G_l_whole (hr.mono (by decide)) (by rfl) m_l_whole F_l_whole.kp b_l_whole .nil pass0 (pa_cons (pv 1) pa_nil)) (pe_one (pe_cmpR op_gt (pv 1) pe_int (nomark _)))))) pa_nil))))))) (pss_one (ps_ret pe_bl)) pss_nil)
      (pss_one (ps_ret (pe_cmpR (op_eqD hr.units) (pe_callTy call_list_of (by rfl) T.n_list (by decide +kernel) (pa_cons (pv 0) pa_nil)) (pe_callB cr_sortedE (by rfl) T.n_sorted (by decide +kernel) (pa_cons (pv 0) pa_nil)) (nomark _))))), ?_⟩
  obtain ⟨a, zs, rfl, ha, hl, h1, hs, k⟩ := h
  simp only [tSeq, tAsg, tDrop, tRet, tRetN, tIfS, tNext, tTest, tB, tNot, tAnd, tOr, tChain, tIf, tAndV, tOrV, tNotV, tOp, tUn, tCB, tCons, tNil, tVar, tC, tCall, tCallS, gName, rI, rI0, rU, rEq, rNe, tTup, tLst, gSub, rSetL, rIxL, rIxT, L2.start, List.map_cons, List.map_nil, List.length_cons, List.length_nil, Nat.reduceAdd, Nat.reduceSub, List.replicate_succ, List.replicate_zero, List.getElem?_cons_zero, List.getElem?_cons_succ, List.set_cons_zero, List.set_cons_succ, Option.some.injEq, exists_eq_left', exists_eq_left, exists_and_left, V.int.injEq, V.bl.injEq, V.ref.injEq, V.str.injEq, List.cons.injEq, and_true, true_and, List.nil_append, List.cons_append, List.append_nil, reduceCtorEq, false_and, exists_false, or_false, false_or, and_false, Int.reduceNeg, decide_eq_true_eq, Bool.not_eq_true', decide_eq_false_iff_not, and_assoc, tYes, ↓reduceIte, wipe, Bool.false_eq_true, Bool.true_eq_false, cxOf, false_implies, true_implies, implies_true, forall_const]
  refine isi_rd ha ⟨_, rfl, ?_⟩
  rw [if_neg (fun z => by cases z)]
  refine ⟨_, rfl, a, rfl, ⟨_, .inl ha⟩, fun D hD => lc_tup (K := K) (a := a) (xs := zs.map V.int) (fun i h' => Same H h' ∧ h' D = some (.lst ((List.replicate i true).map V.bl))) ⟨Same.new hD, upd_same⟩ (fun i h' _ ⟨s, _⟩ => Or.inl (rd_same ha s)) ?_ ?_⟩
  · rintro i z h' hi ⟨s3, eD⟩
    obtain ⟨g, hg, rfl⟩ := nat_map hi
    have il := (List.getElem?_eq_some_iff.mp hg).1
    have g1 := h1 g (List.mem_of_getElem? hg)
    simp only [tSeq, tAsg, tDrop, tRet, tRetN, tIfS, tNext, tTest, tB, tNot, tAnd, tOr, tChain, tIf, tAndV, tOrV, tNotV, tOp, tUn, tCB, tCons, tNil, tVar, tC, tCall, tCallS, gName, rI, rI0, rU, rEq, rNe, tTup, tLst, gSub, rSetL, rIxL, rIxT, L2.start, List.map_cons, List.map_nil, List.length_cons, List.length_nil, Nat.reduceAdd, Nat.reduceSub, List.replicate_succ, List.replicate_zero, List.getElem?_cons_zero, List.getElem?_cons_succ, List.set_cons_zero, List.set_cons_succ, Option.some.injEq, exists_eq_left', exists_eq_left, exists_and_left, V.int.injEq, V.bl.injEq, V.ref.injEq, V.str.injEq, List.cons.injEq, and_true, true_and, List.nil_append, List.cons_append, List.append_nil, reduceCtorEq, false_and, exists_false, or_false, false_or, and_false, Int.reduceNeg, decide_eq_true_eq, Bool.not_eq_true', decide_eq_false_iff_not, and_assoc, tYes, ↓reduceIte, wipe, Bool.false_eq_true, Bool.true_eq_false, cxOf, false_implies, true_implies, implies_true, forall_const, sp_l_whole, isI]
    refine ⟨True.intro, _, eD, by rw [List.length_map, List.length_replicate]; exact small1000 (by omega), fun b o e => ?_, ?_⟩
    · rw [upd_ne (ne_of_none e hD)]
      exact s3 b o e
    · rw [upd_same, decide_eq_true (show (0 : Int) < g by omega), show (List.map V.bl (List.replicate i true) ++ [V.bl true]) = List.map V.bl (List.replicate (i + 1) true) by rw [List.replicate_succ', List.map_append]; rfl]
      try rfl
  · rintro h' ⟨s3, eD⟩
    refine ⟨D, _, rfl, SqL.of eD, _, rfl, ?_⟩
    rw [if_neg (by simp)]
    refine ⟨_, .inr (.inl (rd_same ha s3)), fun l hl0 => ⟨a, zs, rfl, .inr (.inl (rd_same (rd_same ha s3) (Same.new hl0))), fun ks p p1 p2 hp => ?_⟩⟩
    have e := PySem.W.os_sorted_one p1 p2 hs
    subst e
    refine eq_listI (SqL.of ((Same.new hp) _ _ upd_same)) (SqL.of upd_same) ?_
    rw [decide_eq_true rfl]
    exact k _ (s3.trans ((Same.new hl0).trans (Same.new hp)))
def sp_l_serving (_ : PySem.W.Frag) : Sp := fun vs H Q _ => ∃ (h q : Addr) (n : Int), vs = [.ref h, .int n, .int 2] ∧ HandAt H h q ∧ 0 ≤ n ∧ n ≤ 12 ∧
  ∀ (H' : Hp) (b : Addr) (ms : List Int), HandAt H' h q → But h H H' → H' b = some (.lst (ms.map V.int)) → H b = none → ms.length = n.toNat → (∀ m, m ∈ ms → 1 ≤ m ∧ m ≤ 5000) → ms.Pairwise (· ≤ ·) → Q (.ref b) H'
theorem len_l_serving {vs H Q E} (h : sp_l_serving K vs H Q E) : vs.length = 3 := by
  obtain ⟨_, _, _, rfl, _⟩ := h; rfl
theorem ok_l_serving {f : Addr} {fd : FuncData} (F : Fun K "_law_serving" "_law_serving" s_l_serving f fd) (T : Txt K mg cBadPool cBadPeople cBadPerson cBadAmount) : FnOk P w K mg base CX0 3 f fd ps_l_serving (sp_l_serving K) := by
  obtain ⟨f_l_draw, fd_l_draw, F_l_draw, m_l_draw, b_l_draw⟩ := T.d_l_draw
  have G_l_draw : FnOk P w K mg base CX0 2 f_l_draw fd_l_draw ps_l_draw (sp_l_draw K) := ok_l_draw F_l_draw T
  refine F.ok (k := 2) sc_l_serving (fun vs H Q E h => len_l_serving h) (fun cdv A outer s H vs Q E hr h => ?_)
  refine ⟨_, (pss_cons (ps_set (i := 3) sc_l_serving.nd rfl (Or.inl rfl) (pe_lst pa_nil))
      (pss_cons (ps_for PassesOwn.never rfl (pi_range1 (by rfl) T.n_range (pa_cons (pv 1) pa_nil)) (pg_name (i := 4) sc_l_serving.nd rfl (Or.inl rfl))
      (pss_cons (ps_set (i := 5) sc_l_serving.nd rfl (Or.inl rfl) (pe_ifExp (pt_cmpR op_gt (pv 2) pe_int (nomark _)) (pe_op op_add (pe_op op_fdivW (pe_callB (cr_sumE rfl) (by rfl) T.n_sum (by decide +kernel) (pa_cons (pv 3) pa_nil)) (pe_op op_sub (pv 2) pe_int)) pe_int) (pe_op op_add (pe_callB (cr_sumE rfl) (by rfl) T.n_sum (by decide +kernel) (pa_cons (pv 3) pa_nil)) pe_int)))
      (pss_cons (ps_set (i := 6) sc_l_serving.nd rfl (Or.inl rfl) (pe_call G_l_draw (hr.mono (by decide)) (by rfl) m_l_draw F_l_draw.kp b_l_draw .nil pass0 (pa_cons (pv 0) (pa_cons pe_int pa_nil))))
      (pss_one (ps_expr (pe_bm PySem.F.plainAttrs_list PySem.F.slot_list_append PySem.F.type_list_append mt_append (pv 3) (pa_cons (pe_ifExp (pt_cmpR op_eq (pv 6) pe_int (nomark _)) (pv 5) (pe_op op_add pe_int (pe_call G_l_draw (hr.mono (by decide)) (by rfl) m_l_draw F_l_draw.kp b_l_draw .nil pass0 (pa_cons (pv 0) (pa_cons (pv 5) pa_nil))))) pa_nil)))))))
      (pss_one (ps_ret (pe_callB cr_sortedE (by rfl) T.n_sorted (by decide +kernel) (pa_cons (pv 3) pa_nil)))))), ?_⟩
  obtain ⟨h, q, n, rfl, hh, n0, n1, k⟩ := h
  simp only [tSeq, tAsg, tDrop, tRet, tRetN, tIfS, tNext, tTest, tB, tNot, tAnd, tOr, tChain, tIf, tAndV, tOrV, tNotV, tOp, tUn, tCB, tCons, tNil, tVar, tC, tCall, tCallS, gName, rI, rI0, rU, rEq, rNe, tTup, tLst, gSub, rSetL, rIxL, rIxT, L2.start, List.map_cons, List.map_nil, List.length_cons, List.length_nil, Nat.reduceAdd, Nat.reduceSub, List.replicate_succ, List.replicate_zero, List.getElem?_cons_zero, List.getElem?_cons_succ, List.set_cons_zero, List.set_cons_succ, Option.some.injEq, exists_eq_left', exists_eq_left, exists_and_left, V.int.injEq, V.bl.injEq, V.ref.injEq, V.str.injEq, List.cons.injEq, and_true, true_and, List.nil_append, List.cons_append, List.append_nil, reduceCtorEq, false_and, exists_false, or_false, false_or, and_false, Int.reduceNeg, decide_eq_true_eq, Bool.not_eq_true', decide_eq_false_iff_not, and_assoc, tYes, ↓reduceIte, wipe, Bool.false_eq_true, Bool.true_eq_false, cxOf, false_implies, true_implies, implies_true, forall_const, spDraw]
  refine ⟨Nat.zero_le _, fun D hD => ?_⟩
  have n1' := hh.off hD
  have n2' := handOffq hh hD
  refine ⟨_, rfl, n, rfl, by omega, by omega, for_range (lo := 0) (n := n.toNat) (fun i z H' => ∃ (ms : List Int) (v4 v5 v6 : Option V), z = [some (.ref h), some (.int n), some (.int 2), some (.ref D), v4, v5, v6] ∧ HandAt H' h q ∧ But h H H' ∧ H' D = some (.lst (ms.map V.int)) ∧ ms.length = i ∧ ms.sum ≤ 2 ^ i - 1 ∧ ∀ m, m ∈ ms → 1 ≤ m ∧ m ≤ 4100)
    ⟨[], none, none, none, rfl, hh.same (Same.new hD), But.new hD, upd_same, rfl, by decide, fun m hm => absurd hm List.not_mem_nil⟩ ?_ ?_⟩
  · rintro i z H' hi ⟨ms, v4, v5, v6, rfl, hd, bt, eD, ln, sm, mb⟩
    have s0 : 0 ≤ ms.sum := (sum_box (B := 4100) (by decide) fun m hm => ⟨by have := (mb m hm).1; omega, (mb m hm).2⟩).1
    have i2 : (2 : Int) ^ i ≤ 2 ^ 11 := pow2_le (by omega)
    have i3 : (2 : Int) ^ 11 = 2048 := by decide
    have e2 : (2 : Int) ^ (i + 1) = 2 * 2 ^ i := by rw [Int.pow_succ, Int.mul_comm]
    simp only [tSeq, tAsg, tDrop, tRet, tRetN, tIfS, tNext, tTest, tB, tNot, tAnd, tOr, tChain, tIf, tAndV, tOrV, tNotV, tOp, tUn, tCB, tCons, tNil, tVar, tC, tCall, tCallS, gName, rI, rI0, rU, rEq, rNe, tTup, tLst, gSub, rSetL, rIxL, rIxT, L2.start, List.map_cons, List.map_nil, List.length_cons, List.length_nil, Nat.reduceAdd, Nat.reduceSub, List.replicate_succ, List.replicate_zero, List.getElem?_cons_zero, List.getElem?_cons_succ, List.set_cons_zero, List.set_cons_succ, Option.some.injEq, exists_eq_left', exists_eq_left, exists_and_left, V.int.injEq, V.bl.injEq, V.ref.injEq, V.str.injEq, List.cons.injEq, and_true, true_and, List.nil_append, List.cons_append, List.append_nil, reduceCtorEq, false_and, exists_false, or_false, false_or, and_false, Int.reduceNeg, decide_eq_true_eq, Bool.not_eq_true', decide_eq_false_iff_not, and_assoc, tYes, ↓reduceIte, wipe, Bool.false_eq_true, Bool.true_eq_false, cxOf, false_implies, true_implies, implies_true, forall_const, rSumE, spDraw, tBM, rAppend]
    rw [if_pos (by decide)]
    have e1 : ms.sum / (2 - 1) + 1 = ms.sum + 1 := by rw [show (2 : Int) - 1 = 1 from rfl, Int.ediv_one]
    refine ⟨ms, .inl (SqL.of eD), cdw (by decide) (by decide), ?_⟩
    rw [e1]
    have add : ∀ (Hx : Hp) (g : Int), 1 ≤ g → g ≤ ms.sum + 1 → HandAt Hx h q → But h H Hx → Hx D = some (.lst (ms.map V.int)) →
        ∃ x, Hx D = some (HO.lst x) ∧ x.length < sizeLine ∧ HandAt (upd Hx D (HO.lst (x ++ [V.int g]))) h q ∧ But h H (upd Hx D (HO.lst (x ++ [V.int g]))) ∧
          ∃ x_3 : List Int, upd Hx D (HO.lst (x ++ [V.int g])) D = some (HO.lst (x_3.map V.int)) ∧ x_3.length = i + 1 ∧ x_3.sum ≤ 2 ^ (i + 1) - 1 ∧ ∀ m : Int, m ∈ x_3 → 1 ≤ m ∧ m ≤ 4100 := by
      intro Hx g g1 g2 hx bx ex
      refine ⟨_, ex, by rw [List.length_map]; exact small1000 (by omega), handPut hx n1' n2', butAt bx hD, ms ++ [g], by rw [upd_same, List.map_append]; rfl, by rw [List.length_append, ln]; rfl, ?_, fun m hm => ?_⟩
      · rw [List.sum_append, e2]
        simp
        omega
      · rcases List.mem_append.mp hm with hm | hm
        · exact mb m hm
        · rw [List.mem_singleton.mp hm]
          exact ⟨by omega, by omega⟩
    refine ⟨q, hd, by decide, by decide, fun y H1 y0 y1 hd1 b1 => ?_⟩
    have eD1 := b1 _ _ eD n1'
    refine ⟨.inl ⟨rfl, _, SqL.of eD1⟩, rfl, ?_⟩
    split
    · exact add H1 (ms.sum + 1) (by omega) (by omega) hd1 (bt.trans b1) eD1
    · exact ⟨q, hd1, by omega, by omega, fun y2 H2 y20 y21 hd2 b2 => add H2 (1 + y2) (by omega) (by omega) hd2 ((bt.trans b1).trans b2) (b2 _ _ eD1 n1')⟩
  · rintro z H' ⟨ms, v4, v5, v6, rfl, hd, bt, eD, ln, sm, mb⟩
    simp only [tSeq, tAsg, tDrop, tRet, tRetN, tIfS, tNext, tTest, tB, tNot, tAnd, tOr, tChain, tIf, tAndV, tOrV, tNotV, tOp, tUn, tCB, tCons, tNil, tVar, tC, tCall, tCallS, gName, rI, rI0, rU, rEq, rNe, tTup, tLst, gSub, rSetL, rIxL, rIxT, L2.start, List.map_cons, List.map_nil, List.length_cons, List.length_nil, Nat.reduceAdd, Nat.reduceSub, List.replicate_succ, List.replicate_zero, List.getElem?_cons_zero, List.getElem?_cons_succ, List.set_cons_zero, List.set_cons_succ, Option.some.injEq, exists_eq_left', exists_eq_left, exists_and_left, V.int.injEq, V.bl.injEq, V.ref.injEq, V.str.injEq, List.cons.injEq, and_true, true_and, List.nil_append, List.cons_append, List.append_nil, reduceCtorEq, false_and, exists_false, or_false, false_or, and_false, Int.reduceNeg, decide_eq_true_eq, Bool.not_eq_true', decide_eq_false_iff_not, and_assoc, tYes, ↓reduceIte, wipe, Bool.false_eq_true, Bool.true_eq_false, cxOf, false_implies, true_implies, implies_true, forall_const, rSortedE]
    refine ⟨ms, .inl (SqL.of eD), fun ks l p1 p2 hl => k _ l ks (hd.same (Same.new hl)) (bt.trans (But.new hl)) upd_same (but_free bt hd hl) (by rw [p1.length_eq]; exact ln) (fun m hm => ⟨(mb m (p1.mem_iff.mp hm)).1, by have := (mb m (p1.mem_iff.mp hm)).2; omega⟩) p2⟩
def sp_l_pool (_ : PySem.W.Frag) : Sp := fun vs H Q _ => ∃ (h q : Addr), vs = [.ref h, .int 12, .int 2] ∧ HandAt H h q ∧ GivesS h q 12 H Q
theorem len_l_pool {vs H Q E} (h : sp_l_pool K vs H Q E) : vs.length = 3 := by
  obtain ⟨_, _, rfl, _⟩ := h; rfl
theorem ok_l_pool {f : Addr} {fd : FuncData} (F : Fun K "_law_pool" "_law_pool" s_l_pool f fd) (T : Txt K mg cBadPool cBadPeople cBadPerson cBadAmount) : FnOk P w K mg base CX0 4 f fd ps_l_pool (sp_l_pool K) := by
  obtain ⟨f_l_draw, fd_l_draw, F_l_draw, m_l_draw, b_l_draw⟩ := T.d_l_draw
  have G_l_draw : FnOk P w K mg base CX0 2 f_l_draw fd_l_draw ps_l_draw (sp_l_draw K) := ok_l_draw F_l_draw T
  obtain ⟨f_l_serving, fd_l_serving, F_l_serving, m_l_serving, b_l_serving⟩ := T.d_l_serving
  have G_l_serving : FnOk P w K mg base CX0 3 f_l_serving fd_l_serving ps_l_serving (sp_l_serving K) := ok_l_serving F_l_serving T
  refine F.ok (k := 3) sc_l_pool (fun vs H Q E h => len_l_pool h) (fun cdv A outer s H vs Q E hr h => ?_)
  refine ⟨_, (pss_cons (ps_set (i := 3) sc_l_pool.nd rfl (Or.inl rfl) (pe_callB (call_max2 rfl) (by rfl) T.n_max (by decide +kernel) (pa_cons (pe_call G_l_draw (hr.mono (by decide)) (by rfl) m_l_draw F_l_draw.kp b_l_draw .nil pass0 (pa_cons (pv 0) (pa_cons (pe_op op_add (pv 1) pe_int) pa_nil))) (pa_cons (pe_call G_l_draw (hr.mono (by decide)) (by rfl) m_l_draw F_l_draw.kp b_l_draw .nil pass0 (pa_cons (pv 0) (pa_cons (pe_op op_add (pv 1) pe_int) pa_nil))) pa_nil))))
      (pss_cons (ps_set (i := 4) sc_l_pool.nd rfl (Or.inl rfl) (pe_call G_l_draw (hr.mono (by decide)) (by rfl) m_l_draw F_l_draw.kp b_l_draw .nil pass0 (pa_cons (pv 0) (pa_cons pe_int pa_nil))))
      (pss_cons (ps_if (pt_cmpR op_gt (pv 4) pe_int (nomark _)) (pss_one (ps_ret (pe_callB cr_sortedE (by rfl) T.n_sorted (by decide +kernel) (pa_cons (pe_lc (own := [("_law_k", 5)]) (g := gName 5) (tt := tYes) rfl sc_l_pool.nd (pi_range1 (by rfl) T.n_range (pa_cons (pv 3) pa_nil)) (blkOk_by (N := nm_l_pool) (sc := defScope s_l_pool) (by decide +kernel)) (fun _ _ _ _ _ => (pg_name (i := 5) sc_l_pool.nd rfl (Or.inl rfl))) (fun _ _ _ _ _ => pts_nil) (fun _ _ _ _ _ => (pe_op op_add pe_int (pe_call G_l_draw (hr.mono (by decide)) (by rfl) m_l_draw F_l_draw.kp b_l_draw .nil pass0 (pa_cons (pv 0) (pa_cons pe_int pa_nil)))))) pa_nil)))) pss_nil)
      (pss_cons (ps_set (i := 6) sc_l_pool.nd rfl (Or.inl rfl) (pe_call G_l_serving (hr.mono (by decide)) (by rfl) m_l_serving F_l_serving.kp b_l_serving .nil pass0 (pa_cons (pv 0) (pa_cons (pv 3) (pa_cons (pv 2) pa_nil)))))
      (pss_cons (ps_if (PW.pt (pw_and (pt_cmpR op_gt (pv 4) pe_int (nomark _)) (pw_and1 (pt_cmpR op_gt (pv 3) pe_int (nomark _))))) (pss_cons (ps_set (i := 7) sc_l_pool.nd rfl (Or.inl rfl) (pe_call G_l_draw (hr.mono (by decide)) (by rfl) m_l_draw F_l_draw.kp b_l_draw .nil pass0 (pa_cons (pv 0) (pa_cons (pv 3) pa_nil))))
      (pss_one (ps_asg (pe_op op_add (pe_op op_add (pe_ix ix_list (pv 6) (pv 7) (fun _ _ => rfl)) pe_int) (pe_call G_l_draw (hr.mono (by decide)) (by rfl) m_l_draw F_l_draw.kp b_l_draw .nil pass0 (pa_cons (pv 0) (pa_cons pe_int pa_nil)))) (pg_sub (pv 6) (pv 7) set_list)))) pss_nil)
      (pss_one (ps_ret (pe_callB cr_sortedE (by rfl) T.n_sorted (by decide +kernel) (pa_cons (pv 6) pa_nil))))))))), ?_⟩
  obtain ⟨h, q, rfl, hh, k⟩ := h
  simp only [tSeq, tAsg, tDrop, tRet, tRetN, tIfS, tNext, tTest, tB, tNot, tAnd, tOr, tChain, tIf, tAndV, tOrV, tNotV, tOp, tUn, tCB, tCons, tNil, tVar, tC, tCall, tCallS, gName, rI, rI0, rU, rEq, rNe, tTup, tLst, gSub, rSetL, rIxL, rIxT, L2.start, List.map_cons, List.map_nil, List.length_cons, List.length_nil, Nat.reduceAdd, Nat.reduceSub, List.replicate_succ, List.replicate_zero, List.getElem?_cons_zero, List.getElem?_cons_succ, List.set_cons_zero, List.set_cons_succ, Option.some.injEq, exists_eq_left', exists_eq_left, exists_and_left, V.int.injEq, V.bl.injEq, V.ref.injEq, V.str.injEq, List.cons.injEq, and_true, true_and, List.nil_append, List.cons_append, List.append_nil, reduceCtorEq, false_and, exists_false, or_false, false_or, and_false, Int.reduceNeg, decide_eq_true_eq, Bool.not_eq_true', decide_eq_false_iff_not, and_assoc, tYes, ↓reduceIte, wipe, Bool.false_eq_true, Bool.true_eq_false, cxOf, false_implies, true_implies, implies_true, forall_const, spDraw]
  refine ⟨q, hh, by decide, by decide, fun d H1 d0 d1 hh1 b1 => ⟨q, hh1, by decide, by decide, fun e H2 e0 e1 hh2 b2 => ⟨q, hh2, by decide, by decide, fun t H3 t0 t1 hh3 b3 => ?_⟩⟩⟩
  have bM := max_box d0 d1 e0 e1
  generalize (if e > d then e else d) = M at bM ⊢
  have b03 := (b1.trans b2).trans b3
  split
  · refine ⟨_, rfl, M, rfl, by omega, by omega, fun D hD => ?_⟩
    have n1 := hh3.off hD
    have n2 := handOffq hh3 hD
    refine lc_range (lo := 0) (n := M.toNat) (fun i h' => ∃ ms : List Int, HandAt h' h q ∧ But h H h' ∧ h' D = some (.lst (ms.map V.int)) ∧ ms.length = i ∧ ∀ m, m ∈ ms → 1 ≤ m ∧ m ≤ 1000000000)
      ⟨[], hh3.same (Same.new hD), b03.trans (But.new hD), upd_same, rfl, fun m hm => absurd hm List.not_mem_nil⟩ ?_ ?_
    · rintro i h' hi ⟨ms, hd, bt, eD, ln, mb⟩
      simp only [tSeq, tAsg, tDrop, tRet, tRetN, tIfS, tNext, tTest, tB, tNot, tAnd, tOr, tChain, tIf, tAndV, tOrV, tNotV, tOp, tUn, tCB, tCons, tNil, tVar, tC, tCall, tCallS, gName, rI, rI0, rU, rEq, rNe, tTup, tLst, gSub, rSetL, rIxL, rIxT, L2.start, List.map_cons, List.map_nil, List.length_cons, List.length_nil, Nat.reduceAdd, Nat.reduceSub, List.replicate_succ, List.replicate_zero, List.getElem?_cons_zero, List.getElem?_cons_succ, List.set_cons_zero, List.set_cons_succ, Option.some.injEq, exists_eq_left', exists_eq_left, exists_and_left, V.int.injEq, V.bl.injEq, V.ref.injEq, V.str.injEq, List.cons.injEq, and_true, true_and, List.nil_append, List.cons_append, List.append_nil, reduceCtorEq, false_and, exists_false, or_false, false_or, and_false, Int.reduceNeg, decide_eq_true_eq, Bool.not_eq_true', decide_eq_false_iff_not, and_assoc, tYes, ↓reduceIte, wipe, Bool.false_eq_true, Bool.true_eq_false, cxOf, false_implies, true_implies, implies_true, forall_const, spDraw]
      refine ⟨q, hd, by decide, by decide, fun y H4 y0 y1 hd4 b4 => ?_⟩
      have fD : H D = none := but_free b03 hh3 hD
      refine ⟨_, b4 _ _ eD n1, by rw [List.length_map]; exact small1000 (by omega), handPut hd4 n1 n2, butAt (bt.trans b4) fD, ms ++ [1 + y], by rw [upd_same, List.map_append]; rfl, by rw [List.length_append, ln]; rfl, fun m hm => ?_⟩
      rcases List.mem_append.mp hm with hm | hm
      · exact mb m hm
      · rw [List.mem_singleton.mp hm]
        exact ⟨by omega, by omega⟩
    · rintro h' ⟨ms, hd, bt, eD, ln, mb⟩
      exact ⟨D, ms, rfl, .inl (SqL.of eD), fun ks l p1 p2 hl => k _ l ks (hd.same (Same.new hl)) (bt.trans (But.new hl)) upd_same (hd.off hl) (by rw [p1.length_eq]; omega) (fun m hm => mb m (p1.mem_iff.mp hm)) p2⟩
  · refine ⟨h, q, M, rfl, hh3, bM.1, bM.2, fun H4 b ms hh4 b4 eb fb ln mb so => ?_⟩
    have nb : b ≠ h := hh3.off fb
    have nq : b ≠ q := handOffq hh3 fb
    have fin : ∀ (Hx : Hp) (ks : List Int), HandAt Hx h q → But h H Hx → Hx b = some (.lst (ks.map V.int)) → ks.length ≤ 12 → (∀ m, m ∈ ks → 1 ≤ m ∧ m ≤ 1000000000) → rSortedE K [V.ref b] Hx Q := fun Hx ks hx bx ex lx kb =>
      ⟨b, ks, rfl, .inl (SqL.of ex), fun zs l p1 p2 hl => k _ l zs (hx.same (Same.new hl)) (bx.trans (But.new hl)) upd_same (hx.off hl) (by rw [p1.length_eq]; exact lx) (fun m hm => kb m (p1.mem_iff.mp hm)) p2⟩
    have fb0 : H b = none := but_free b03 hh3 fb
    have mb' : ∀ m, m ∈ ms → 1 ≤ m ∧ m ≤ 1000000000 := fun m hm => ⟨(mb m hm).1, by have := (mb m hm).2; omega⟩
    split
    · split
      · refine ⟨q, hh4, by omega, by omega, fun j H5 j0 j1 hh5 b5 => ?_⟩
        obtain ⟨j, rfl⟩ := Int.eq_ofNat_of_zero_le j0
        have jl : j < ms.length := by omega
        have e5 := b5 _ _ eb nb
        refine ⟨b, rfl, _, SqL.of e5, _, atI_nat (by rw [List.getElem?_map, List.getElem?_eq_getElem jl]; rfl), _, rfl, q, hh5, by decide, by decide, fun y H6 y0 y1 hh6 b6 => ?_⟩
        have e6 := b6 _ _ e5 nb
        refine ⟨b, rfl, _, e6, j, ?_, fin _ (ms.set j (ms[j] + 1 + y)) (handPut hh6 nb nq) (butAt (((b03.trans b4).trans b5).trans b6) fb0) (by rw [upd_same, List.map_set]) (by rw [List.length_set]; omega) fun m hm => ?_⟩
        · unfold ixN
          rw [if_pos (by omega), if_pos (by rw [List.length_map]; omega)]
          simp
        · rcases List.mem_or_eq_of_mem_set hm with hm | rfl
          · exact mb' m hm
          · have := mb ms[j] (List.getElem_mem jl)
            exact ⟨by omega, by omega⟩
      · exact fin H4 ms hh4 (b03.trans b4) eb (by omega) mb'
    · exact fin H4 ms hh4 (b03.trans b4) eb (by omega) mb'
end
end My
set_option Elab.async false
set_option linter.all false
set_option maxRecDepth 100000
set_option maxHeartbeats 4000000
namespace My
open PySem PySem.Spec PyProof.Rows L2 Gen
section
variable {P : Program} {w : World} {K : PySem.W.Frag} {mg : Str → Option Value} {base : Heap} { cBadPool cBadPeople cBadPerson cBadAmount : Addr}
theorem atI_in {xs : List V} {d : Int} (h0 : 0 ≤ d) (h1 : d < xs.length) : ∃ x, x ∈ xs ∧ atI xs d = some x := by
  obtain ⟨j, rfl⟩ := Int.eq_ofNat_of_zero_le h0
  have jl : j < xs.length := by omega
  exact ⟨xs[j], List.getElem_mem jl, atI_nat (List.getElem?_eq_getElem jl)⟩
def sp_l_great (_ : PySem.W.Frag) : Sp := fun vs H Q _ => ∃ (h q : Addr), vs = [.ref h, .int 12] ∧ HandAt H h q ∧ GivesS h q 12 H Q
theorem len_l_great {vs H Q E} (h : sp_l_great K vs H Q E) : vs.length = 2 := by
  obtain ⟨_, _, rfl, _⟩ := h; rfl
theorem ok_l_great {f : Addr} {fd : FuncData} (F : Fun K "_law_great" "_law_great" s_l_great f fd) (T : Txt K mg cBadPool cBadPeople cBadPerson cBadAmount) : FnOk P w K mg base CX0 4 f fd ps_l_great (sp_l_great K) := by
  obtain ⟨f_l_draw, fd_l_draw, F_l_draw, m_l_draw, b_l_draw⟩ := T.d_l_draw
  have G_l_draw : FnOk P w K mg base CX0 2 f_l_draw fd_l_draw ps_l_draw (sp_l_draw K) := ok_l_draw F_l_draw T
  obtain ⟨f_l_big, fd_l_big, F_l_big, m_l_big, b_l_big⟩ := T.d_l_big
  have G_l_big : FnOk P w K mg base CX0 3 f_l_big fd_l_big ps_l_big (sp_l_big K) := ok_l_big F_l_big T
  refine F.ok (k := 3) sc_l_great (fun vs H Q E h => len_l_great h) (fun cdv A outer s H vs Q E hr h => ?_)
  refine ⟨_, (pss_cons (ps_set (i := 2) sc_l_great.nd rfl (Or.inl rfl) (pe_call G_l_draw (hr.mono (by decide)) (by rfl) m_l_draw F_l_draw.kp b_l_draw .nil pass0 (pa_cons (pv 0) (pa_cons (pe_op op_add (pv 1) pe_int) pa_nil))))
      (pss_cons (ps_set (i := 3) sc_l_great.nd rfl (Or.inl rfl) (pe_lst pa_nil))
      (pss_cons (ps_for PassesOwn.never rfl (pi_range1 (by rfl) T.n_range (pa_cons (pv 2) pa_nil)) (pg_name (i := 4) sc_l_great.nd rfl (Or.inl rfl))
      (pss_one (ps_if (PW.pt (pw_and (pt_cmpR op_gt (pv 4) pe_int (nomark _)) (pw_and1 (pt_cmpR op_eq (pe_call G_l_draw (hr.mono (by decide)) (by rfl) m_l_draw F_l_draw.kp b_l_draw .nil pass0 (pa_cons (pv 0) (pa_cons pe_int pa_nil))) pe_int (nomark _))))) (pss_one (ps_expr (pe_bm PySem.F.plainAttrs_list PySem.F.slot_list_append PySem.F.type_list_append mt_append (pv 3) (pa_cons (pe_ix ix_list (pv 3) (pe_call G_l_draw (hr.mono (by decide)) (by rfl) m_l_draw F_l_draw.kp b_l_draw .nil pass0 (pa_cons (pv 0) (pa_cons (pv 4) pa_nil))) (fun _ _ => rfl)) pa_nil)))) (pss_one (ps_expr (pe_bm PySem.F.plainAttrs_list PySem.F.slot_list_append PySem.F.type_list_append mt_append (pv 3) (pa_cons (pe_op op_add pe_int (pe_call G_l_big (hr.mono (by decide)) (by rfl) m_l_big F_l_big.kp b_l_big .nil pass0 (pa_cons (pv 0) (pa_cons (pe_op op_pow pe_int pe_int) pa_nil)))) pa_nil)))))))
      (pss_one (ps_ret (pe_callB cr_sortedE (by rfl) T.n_sorted (by decide +kernel) (pa_cons (pv 3) pa_nil))))))), ?_⟩
  obtain ⟨h, q, rfl, hh, k⟩ := h
  simp only [tSeq, tAsg, tDrop, tRet, tRetN, tIfS, tNext, tTest, tB, tNot, tAnd, tOr, tChain, tIf, tAndV, tOrV, tNotV, tOp, tUn, tCB, tCons, tNil, tVar, tC, tCall, tCallS, gName, rI, rI0, rU, rEq, rNe, tTup, tLst, gSub, rSetL, rIxL, rIxT, L2.start, List.map_cons, List.map_nil, List.length_cons, List.length_nil, Nat.reduceAdd, Nat.reduceSub, List.replicate_succ, List.replicate_zero, List.getElem?_cons_zero, List.getElem?_cons_succ, List.set_cons_zero, List.set_cons_succ, Option.some.injEq, exists_eq_left', exists_eq_left, exists_and_left, V.int.injEq, V.bl.injEq, V.ref.injEq, V.str.injEq, List.cons.injEq, and_true, true_and, List.nil_append, List.cons_append, List.append_nil, reduceCtorEq, false_and, exists_false, or_false, false_or, and_false, Int.reduceNeg, decide_eq_true_eq, Bool.not_eq_true', decide_eq_false_iff_not, and_assoc, tYes, ↓reduceIte, wipe, Bool.false_eq_true, Bool.true_eq_false, cxOf, false_implies, true_implies, implies_true, forall_const, spDraw]
  refine ⟨q, hh, by decide, by decide, fun d H1 d0 d1 hh1 b1 => ⟨Nat.zero_le _, fun D hD => ?_⟩⟩
  have n1 := hh1.off hD
  have n2 := handOffq hh1 hD
  have fD := but_free b1 hh1 hD
  refine ⟨_, rfl, d, rfl, by omega, by omega, for_range (lo := 0) (n := d.toNat) (fun i z H' => ∃ (ms : List Int) (v4 : Option V), z = [some (.ref h), some (.int 12), some (.int d), some (.ref D), v4] ∧ HandAt H' h q ∧ But h H H' ∧ H' D = some (.lst (ms.map V.int)) ∧ ms.length = i ∧ ∀ m, m ∈ ms → 1 ≤ m ∧ m ≤ 1000000000)
    ⟨[], none, rfl, hh1.same (Same.new hD), b1.trans (But.new hD), upd_same, rfl, fun m hm => absurd hm List.not_mem_nil⟩ ?_ ?_⟩
  · rintro i z H' hi ⟨ms, v4, rfl, hd, bt, eD, ln, mb⟩
    have e9 : (10 : Int) ^ Int.toNat 9 = 1000000000 := by decide
    have fD := but_free b1 hh1 hD
    have add : ∀ (Hx : Hp) (g : Int), 1 ≤ g → g ≤ 1000000000 → HandAt Hx h q → But h H Hx → Hx D = some (.lst (ms.map V.int)) →
        ∃ x, Hx D = some (HO.lst x) ∧ x.length < sizeLine ∧ HandAt (upd Hx D (HO.lst (x ++ [V.int g]))) h q ∧ But h H (upd Hx D (HO.lst (x ++ [V.int g]))) ∧
          ∃ x_2 : List Int, upd Hx D (HO.lst (x ++ [V.int g])) D = some (HO.lst (x_2.map V.int)) ∧ x_2.length = i + 1 ∧ ∀ m : Int, m ∈ x_2 → 1 ≤ m ∧ m ≤ 1000000000 := by
      intro Hx g g1 g2 hx bx ex
      refine ⟨_, ex, by rw [List.length_map]; exact small1000 (by omega), handPut hx n1 n2, butAt bx fD, ms ++ [g], by rw [upd_same, List.map_append]; rfl, by rw [List.length_append, ln]; rfl, fun m hm => ?_⟩
      rcases List.mem_append.mp hm with hm | hm
      · exact mb m hm
      · rw [List.mem_singleton.mp hm]
        exact ⟨g1, g2⟩
    have fresh : ∀ Hx, HandAt Hx h q → But h H Hx → Hx D = some (.lst (ms.map V.int)) → tyV K "list" (V.ref D) Hx ∧ CPow 10 9 ∧ ∃ x, HandAt Hx h x ∧ (0 : Int) < 1000000000 ∧ (1000000000 : Int) < 9223372036854775808 ∧
        ∀ (d : Int) (H' : Hp), 0 ≤ d → d < 1000000000 → HandAt H' h x → But h Hx H' → ∃ x, H' D = some (HO.lst x) ∧ x.length < sizeLine ∧ HandAt (upd H' D (HO.lst (x ++ [V.int (1 + d)]))) h q ∧ But h H (upd H' D (HO.lst (x ++ [V.int (1 + d)]))) ∧
          ∃ x_2 : List Int, upd H' D (HO.lst (x ++ [V.int (1 + d)])) D = some (HO.lst (x_2.map V.int)) ∧ x_2.length = i + 1 ∧ ∀ m : Int, m ∈ x_2 → 1 ≤ m ∧ m ≤ 1000000000 := fun Hx hx bx ex =>
      ⟨.inl ⟨rfl, _, SqL.of ex⟩, ⟨by decide, by decide, by decide⟩, q, hx, by decide, by decide, fun y H1 y0 y1 hd1 b2 => add H1 (1 + y) (by omega) (by omega) hd1 (bx.trans b2) (b2 _ _ ex n1)⟩
    simp only [tSeq, tAsg, tDrop, tRet, tRetN, tIfS, tNext, tTest, tB, tNot, tAnd, tOr, tChain, tIf, tAndV, tOrV, tNotV, tOp, tUn, tCB, tCons, tNil, tVar, tC, tCall, tCallS, gName, rI, rI0, rU, rEq, rNe, tTup, tLst, gSub, rSetL, rIxL, rIxT, L2.start, List.map_cons, List.map_nil, List.length_cons, List.length_nil, Nat.reduceAdd, Nat.reduceSub, List.replicate_succ, List.replicate_zero, List.getElem?_cons_zero, List.getElem?_cons_succ, List.set_cons_zero, List.set_cons_succ, Option.some.injEq, exists_eq_left', exists_eq_left, exists_and_left, V.int.injEq, V.bl.injEq, V.ref.injEq, V.str.injEq, List.cons.injEq, and_true, true_and, List.nil_append, List.cons_append, List.append_nil, reduceCtorEq, false_and, exists_false, or_false, false_or, and_false, Int.reduceNeg, decide_eq_true_eq, Bool.not_eq_true', decide_eq_false_iff_not, and_assoc, tYes, ↓reduceIte, wipe, Bool.false_eq_true, Bool.true_eq_false, cxOf, false_implies, true_implies, implies_true, forall_const, spDraw, tBM, rAppend, e9]
    split
    · refine ⟨q, hd, by decide, by decide, fun y H1 y0 y1 hd1 b2 => ⟨rfl, ?_⟩⟩
      have e1 := b2 _ _ eD n1
      split
      · refine ⟨.inl ⟨rfl, _, SqL.of e1⟩, q, hd1, by omega, by omega, fun j H2 j0 j1 hd2 b3 => ?_⟩
        have e2 := b3 _ _ e1 n1
        obtain ⟨j, rfl⟩ := Int.eq_ofNat_of_zero_le j0
        have jl : j < ms.length := by omega
        have := mb ms[j] (List.getElem_mem jl)
        exact ⟨_, SqL.of e2, _, atI_nat (by rw [List.getElem?_map, List.getElem?_eq_getElem jl]; rfl), add H2 ms[j] this.1 this.2 hd2 ((bt.trans b2).trans b3) e2⟩
      · exact fresh H1 hd1 (bt.trans b2) e1
    · exact fresh H' hd bt eD
  · rintro z H' ⟨ms, v4, rfl, hd, bt, eD, ln, mb⟩
    simp only [tSeq, tAsg, tDrop, tRet, tRetN, tIfS, tNext, tTest, tB, tNot, tAnd, tOr, tChain, tIf, tAndV, tOrV, tNotV, tOp, tUn, tCB, tCons, tNil, tVar, tC, tCall, tCallS, gName, rI, rI0, rU, rEq, rNe, tTup, tLst, gSub, rSetL, rIxL, rIxT, L2.start, List.map_cons, List.map_nil, List.length_cons, List.length_nil, Nat.reduceAdd, Nat.reduceSub, List.replicate_succ, List.replicate_zero, List.getElem?_cons_zero, List.getElem?_cons_succ, List.set_cons_zero, List.set_cons_succ, Option.some.injEq, exists_eq_left', exists_eq_left, exists_and_left, V.int.injEq, V.bl.injEq, V.ref.injEq, V.str.injEq, List.cons.injEq, and_true, true_and, List.nil_append, List.cons_append, List.append_nil, reduceCtorEq, false_and, exists_false, or_false, false_or, and_false, Int.reduceNeg, decide_eq_true_eq, Bool.not_eq_true', decide_eq_false_iff_not, and_assoc, tYes, ↓reduceIte, wipe, Bool.false_eq_true, Bool.true_eq_false, cxOf, false_implies, true_implies, implies_true, forall_const, rSortedE]
    exact ⟨ms, .inl (SqL.of eD), fun ks l p1 p2 hl => k _ l ks (hd.same (Same.new hl)) (bt.trans (But.new hl)) upd_same (hd.off hl) (by rw [p1.length_eq]; omega) (fun m hm => mb m (p1.mem_iff.mp hm)) p2⟩
def sp_l_turned (_ : PySem.W.Frag) : Sp := fun vs H Q _ => ∃ (h q a : Addr) (ns : List Int), vs = [.ref h, .ref a] ∧ HandAt H h q ∧ H a = some (.lst (ns.map V.int)) ∧ a ≠ h ∧ ns.length ≤ 12 ∧
  ∀ (H' : Hp) (b : Addr) (ms : List Int), HandAt H' h q → But h H H' → Row H' b (ms.map V.int) → b ≠ h → ms.Perm ns → Q (.ref b) H'
theorem len_l_turned {vs H Q E} (h : sp_l_turned K vs H Q E) : vs.length = 2 := by
  obtain ⟨_, _, _, _, rfl, _⟩ := h; rfl
theorem ok_l_turned {f : Addr} {fd : FuncData} (F : Fun K "_law_turned" "_law_turned" s_l_turned f fd) (T : Txt K mg cBadPool cBadPeople cBadPerson cBadAmount) : FnOk P w K mg base CX0 3 f fd ps_l_turned (sp_l_turned K) := by
  obtain ⟨f_l_draw, fd_l_draw, F_l_draw, m_l_draw, b_l_draw⟩ := T.d_l_draw
  have G_l_draw : FnOk P w K mg base CX0 2 f_l_draw fd_l_draw ps_l_draw (sp_l_draw K) := ok_l_draw F_l_draw T
  refine F.ok (k := 2) sc_l_turned (fun vs H Q E h => len_l_turned h) (fun cdv A outer s H vs Q E hr h => ?_)
  refine ⟨_, (pss_cons (ps_set (i := 2) sc_l_turned.nd rfl (Or.inl rfl) (pe_lst pa_nil))
      (pss_cons (ps_for PassesOwn.never rfl (pi_list (pv 1)) (pg_name (i := 3) sc_l_turned.nd rfl (Or.inl rfl))
      (pss_one (ps_expr (pe_bm PySem.F.plainAttrs_list PySem.F.slot_list_insert PySem.F.type_list_insert mt_insert (pv 2) (pa_cons (pe_call G_l_draw (hr.mono (by decide)) (by rfl) m_l_draw F_l_draw.kp b_l_draw .nil pass0 (pa_cons (pv 0) (pa_cons (pe_op op_add (pe_callB call_len_seq (by rfl) T.n_len (by decide +kernel) (pa_cons (pv 2) pa_nil)) pe_int) pa_nil))) (pa_cons (pv 3) pa_nil))))))
      (pss_one (ps_ret (pe_ifExp (pt_cmpR op_eq (pe_call G_l_draw (hr.mono (by decide)) (by rfl) m_l_draw F_l_draw.kp b_l_draw .nil pass0 (pa_cons (pv 0) (pa_cons pe_int pa_nil))) pe_int (nomark _)) (pv 2) (pe_callTy call_tuple_of (by rfl) T.n_tuple (by decide +kernel) (pa_cons (pv 2) pa_nil))))))), ?_⟩
  obtain ⟨h, q, a, ns, rfl, hh, ha, na, nl, k⟩ := h
  simp only [tSeq, tAsg, tDrop, tRet, tRetN, tIfS, tNext, tTest, tB, tNot, tAnd, tOr, tChain, tIf, tAndV, tOrV, tNotV, tOp, tUn, tCB, tCons, tNil, tVar, tC, tCall, tCallS, gName, rI, rI0, rU, rEq, rNe, tTup, tLst, gSub, rSetL, rIxL, rIxT, L2.start, List.map_cons, List.map_nil, List.length_cons, List.length_nil, Nat.reduceAdd, Nat.reduceSub, List.replicate_succ, List.replicate_zero, List.getElem?_cons_zero, List.getElem?_cons_succ, List.set_cons_zero, List.set_cons_succ, Option.some.injEq, exists_eq_left', exists_eq_left, exists_and_left, V.int.injEq, V.bl.injEq, V.ref.injEq, V.str.injEq, List.cons.injEq, and_true, true_and, List.nil_append, List.cons_append, List.append_nil, reduceCtorEq, false_and, exists_false, or_false, false_or, and_false, Int.reduceNeg, decide_eq_true_eq, Bool.not_eq_true', decide_eq_false_iff_not, and_assoc, tYes, ↓reduceIte, wipe, Bool.false_eq_true, Bool.true_eq_false, cxOf, false_implies, true_implies, implies_true, forall_const]
  refine ⟨Nat.zero_le _, fun D hD => ?_⟩
  have n1 := hh.off hD
  have n2 := handOffq hh hD
  refine ⟨_, rfl, a, rfl, ⟨_, SqL.of ((Same.new hD) _ _ ha)⟩, for_list (K := K) (a := a) (xs := ns.map V.int) (fun i z H' => ∃ (ms : List Int) (v : Option V), z = [some (.ref h), some (.ref a), some (.ref D), v] ∧ HandAt H' h q ∧ But h H H' ∧ H' D = some (.lst (ms.map V.int)) ∧ ms.Perm (ns.take i))
    ⟨[], none, rfl, hh.same (Same.new hD), But.new hD, upd_same, .refl _⟩ (fun i z H' _ ⟨_, _, _, _, b, _⟩ => SqL.of (b _ _ ha na)) ?_ ?_⟩
  · rintro i y z H' hi ⟨ms, v, rfl, hd, bt, eD, pm⟩
    obtain ⟨g, hg, rfl⟩ := nat_map hi
    have il := (List.getElem?_eq_some_iff.mp hg).1
    simp only [tSeq, tAsg, tDrop, tRet, tRetN, tIfS, tNext, tTest, tB, tNot, tAnd, tOr, tChain, tIf, tAndV, tOrV, tNotV, tOp, tUn, tCB, tCons, tNil, tVar, tC, tCall, tCallS, gName, rI, rI0, rU, rEq, rNe, tTup, tLst, gSub, rSetL, rIxL, rIxT, L2.start, List.map_cons, List.map_nil, List.length_cons, List.length_nil, Nat.reduceAdd, Nat.reduceSub, List.replicate_succ, List.replicate_zero, List.getElem?_cons_zero, List.getElem?_cons_succ, List.set_cons_zero, List.set_cons_succ, Option.some.injEq, exists_eq_left', exists_eq_left, exists_and_left, V.int.injEq, V.bl.injEq, V.ref.injEq, V.str.injEq, List.cons.injEq, and_true, true_and, List.nil_append, List.cons_append, List.append_nil, reduceCtorEq, false_and, exists_false, or_false, false_or, and_false, Int.reduceNeg, decide_eq_true_eq, Bool.not_eq_true', decide_eq_false_iff_not, and_assoc, tYes, ↓reduceIte, wipe, Bool.false_eq_true, Bool.true_eq_false, cxOf, false_implies, true_implies, implies_true, forall_const, spDraw, tBM]
    have ml : ms.length ≤ 12 := by
      rw [pm.length_eq, List.length_take]
      omega
    refine ⟨.inl ⟨rfl, _, SqL.of eD⟩, _, .inl (SqL.of eD), q, hd, by omega, by rw [List.length_map]; omega, fun e H1 e0 e1 hd1 b1 => ⟨_, b1 _ _ eD n1, by rw [List.length_map]; exact small1000 (by omega), e0, by rw [List.length_map] at e1; omega, handPut hd1 n1 n2, butAt (bt.trans b1) hD, ms.take e.toNat ++ [g] ++ ms.drop e.toNat, ?_, ?_⟩⟩
    · rw [upd_same, List.map_append, List.map_append, List.map_take, List.map_drop]
      rfl
    · refine put_perm.trans ?_
      rw [List.take_add_one, hg]
      exact pm.append_right [g]
  · rintro z H' ⟨ms, v, rfl, hd, bt, eD, pm⟩
    rw [List.length_map, List.take_length] at pm
    simp only [tSeq, tAsg, tDrop, tRet, tRetN, tIfS, tNext, tTest, tB, tNot, tAnd, tOr, tChain, tIf, tAndV, tOrV, tNotV, tOp, tUn, tCB, tCons, tNil, tVar, tC, tCall, tCallS, gName, rI, rI0, rU, rEq, rNe, tTup, tLst, gSub, rSetL, rIxL, rIxT, L2.start, List.map_cons, List.map_nil, List.length_cons, List.length_nil, Nat.reduceAdd, Nat.reduceSub, List.replicate_succ, List.replicate_zero, List.getElem?_cons_zero, List.getElem?_cons_succ, List.set_cons_zero, List.set_cons_succ, Option.some.injEq, exists_eq_left', exists_eq_left, exists_and_left, V.int.injEq, V.bl.injEq, V.ref.injEq, V.str.injEq, List.cons.injEq, and_true, true_and, List.nil_append, List.cons_append, List.append_nil, reduceCtorEq, false_and, exists_false, or_false, false_or, and_false, Int.reduceNeg, decide_eq_true_eq, Bool.not_eq_true', decide_eq_false_iff_not, and_assoc, tYes, ↓reduceIte, wipe, Bool.false_eq_true, Bool.true_eq_false, cxOf, false_implies, true_implies, implies_true, forall_const, spDraw]
    refine ⟨q, hd, by decide, by decide, fun y H1 y0 y1 hd1 b1 => ⟨rfl, ?_⟩⟩
    have e1 := b1 _ _ eD n1
    split
    · exact k H1 D ms hd1 (bt.trans b1) (.inr e1) n1 pm
    · exact ⟨_, .inl ⟨SqL.of e1, fun l hl => k _ l ms (hd1.same (Same.new hl)) ((bt.trans b1).trans (But.new hl)) (.inl upd_same) (hd1.off hl) pm⟩⟩
/-- a thing that is no coin, and none of what stood -/
def Odd (h q : Addr) (H : Hp) (Q : VK) : Prop := ∀ x H', Plain H' x → whole x 1 1000000000 = false → (∀ p, x = .ref p → H p = none) → HandAt H' h q → But h H H' → Q x H'
def OddW (h q : Addr) (H : Hp) (Q : VK) : Prop := ∀ x H', Plain H' x → (∀ lo hi : Int, 0 ≤ lo → hi ≤ 12000000000 → whole x lo hi = false) → (∀ p, x = .ref p → H p = none) → HandAt H' h q → But h H H' → Q x H'
def sp_l_odd (_ : PySem.W.Frag) : Sp := fun vs H Q _ => ∃ h q : Addr, vs = [.ref h] ∧ HandAt H h q ∧ OddW h q H Q
theorem len_l_odd {vs H Q E} (h : sp_l_odd K vs H Q E) : vs.length = 1 := by
  obtain ⟨_, _, rfl, _⟩ := h; rfl
theorem ok_l_odd {f : Addr} {fd : FuncData} (F : Fun K "_law_odd" "_law_odd" s_l_odd f fd) (T : Txt K mg cBadPool cBadPeople cBadPerson cBadAmount) : FnOk P w K mg base CX0 4 f fd ps_l_odd (sp_l_odd K) := by
  obtain ⟨f_l_big, fd_l_big, F_l_big, m_l_big, b_l_big⟩ := T.d_l_big
  have G_l_big : FnOk P w K mg base CX0 3 f_l_big fd_l_big ps_l_big (sp_l_big K) := ok_l_big F_l_big T
  obtain ⟨f_l_draw, fd_l_draw, F_l_draw, m_l_draw, b_l_draw⟩ := T.d_l_draw
  have G_l_draw : FnOk P w K mg base CX0 2 f_l_draw fd_l_draw ps_l_draw (sp_l_draw K) := ok_l_draw F_l_draw T
  refine F.ok (k := 3) sc_l_odd (fun vs H Q E h => len_l_odd h) (fun cdv A outer s H vs Q E hr h => ?_)
  refine ⟨_, (pss_cons (ps_set (i := 1) sc_l_odd.nd rfl (Or.inl rfl) (pe_call G_l_big (hr.mono (by decide)) (by rfl) m_l_big F_l_big.kp b_l_big .nil pass0 (pa_cons (pv 0) (pa_cons (pe_op op_pow pe_int pe_int) pa_nil))))
      (pss_one (ps_ret (pe_ix ix_tup (pe_tup (pa_cons pe_bl (pa_cons pe_non (pa_cons pe_str (pa_cons (pe_op op_sub (pe_un un_neg pe_int) (pv 1)) (pa_cons (pe_tup (pa_cons pe_int pa_nil)) (pa_cons (pe_op op_add (pe_op op_add (pe_op op_mul pe_int (pe_op op_pow pe_int pe_int)) pe_int) (pv 1)) (pa_cons pe_bl (pa_cons (pe_lst (pa_cons pe_int pa_nil)) (pa_cons (pe_un un_neg pe_int) (pa_cons (pe_op op_add (pe_op op_mul pe_int (pe_op op_pow pe_int pe_int)) pe_int) pa_nil))))))))))) (pe_call G_l_draw (hr.mono (by decide)) (by rfl) m_l_draw F_l_draw.kp b_l_draw .nil pass0 (pa_cons (pv 0) (pa_cons pe_int pa_nil))) (fun _ _ => rfl))))), ?_⟩
  obtain ⟨h, q, rfl, hh, k⟩ := h
  have e9 : (10 : Int) ^ Int.toNat 9 = 1000000000 := by decide
  simp only [tSeq, tAsg, tDrop, tRet, tRetN, tIfS, tNext, tTest, tB, tNot, tAnd, tOr, tChain, tIf, tAndV, tOrV, tNotV, tOp, tUn, tCB, tCons, tNil, tVar, tC, tCall, tCallS, gName, rI, rI0, rU, rEq, rNe, tTup, tLst, gSub, rSetL, rIxL, rIxT, L2.start, List.map_cons, List.map_nil, List.length_cons, List.length_nil, Nat.reduceAdd, Nat.reduceSub, List.replicate_succ, List.replicate_zero, List.getElem?_cons_zero, List.getElem?_cons_succ, List.set_cons_zero, List.set_cons_succ, Option.some.injEq, exists_eq_left', exists_eq_left, exists_and_left, V.int.injEq, V.bl.injEq, V.ref.injEq, V.str.injEq, List.cons.injEq, and_true, true_and, List.nil_append, List.cons_append, List.append_nil, reduceCtorEq, false_and, exists_false, or_false, false_or, and_false, Int.reduceNeg, decide_eq_true_eq, Bool.not_eq_true', decide_eq_false_iff_not, and_assoc, tYes, ↓reduceIte, wipe, Bool.false_eq_true, Bool.true_eq_false, cxOf, false_implies, true_implies, implies_true, forall_const, spDraw, e9]
  refine ⟨⟨by decide, by decide, by decide⟩, q, hh, by decide, by decide, fun d H1 d0 d1 hh1 b1 => ⟨by decide, fun t1 ht1 => ⟨⟨by decide, by decide, by decide⟩, cml (by decide) (by decide), by decide, fun t2 ht2 => ⟨⟨by decide, by decide, by decide⟩, cml (by decide) (by decide), by decide, fun t3 ht3 => ?_⟩⟩⟩⟩
  have s1 := Same.new (o := HO.tup [V.int 1]) ht1
  have s2 := Same.new (o := HO.lst [V.int 2]) ht2
  have e1 := s2 t1 _ (upd_same (H := H1) (o := HO.tup [V.int 1]))
  have e2 : upd (upd H1 t1 (HO.tup [V.int 1])) t2 (HO.lst [V.int 2]) t2 = some (.lst [V.int 2]) := upd_same
  have hh3 := (hh1.same s1).same s2
  have f1 : H t1 = none := but_free b1 hh1 ht1
  have f2 : H t2 = none := but_free b1 hh1 (Same.free s1 ht2)
  have m1 := hh1.off ht1
  have m2 := hh1.off (Same.free s1 ht2)
  generalize upd (upd H1 t1 (HO.tup [V.int 1])) t2 (HO.lst [V.int 2]) = H3 at s2 e1 e2 hh3 ht3 ⊢
  have s3 := Same.new (o := HO.tup [V.bl true, V.non, V.str (Str.ofString "1"), V.int (-1 - d), V.ref t1, V.int (12 * 1000000000 + 1 + d), V.bl false, V.ref t2, V.int (-1), V.int (12 * 1000000000 + 1)]) ht3
  refine ⟨q, hh3.same s3, by decide, by decide, fun j H4 j0 j1 hh4 b4 => ?_⟩
  obtain ⟨x, hx, ex⟩ := atI_in (xs := [V.bl true, V.non, V.str (Str.ofString "1"), V.int (-1 - d), V.ref t1, V.int (12 * 1000000000 + 1 + d), V.bl false, V.ref t2, V.int (-1), V.int (12 * 1000000000 + 1)]) j0 j1
  refine ⟨_, SqT.of (b4 _ _ upd_same (hh3.off ht3)), x, ex, ?_⟩
  have bt : But h H H4 := ((b1.trans (But.of s1)).trans (But.of s2)).trans ((But.of s3).trans b4)
  have x1 := b4 _ _ (s3 _ _ e1) m1
  have x2 := b4 _ _ (s3 _ _ e2) m2
  simp only [List.mem_cons, List.not_mem_nil, or_false] at hx
  rcases hx with rfl | rfl | rfl | rfl | rfl | rfl | rfl | rfl | rfl | rfl
  · exact k _ H4 True.intro (fun _ _ _ _ => rfl) (fun p e => nomatch e) hh4 bt
  · exact k _ H4 True.intro (fun _ _ _ _ => rfl) (fun p e => nomatch e) hh4 bt
  · exact k _ H4 True.intro (fun _ _ _ _ => rfl) (fun p e => nomatch e) hh4 bt
  · exact k _ H4 True.intro (fun _ _ _ _ => whole_no (.inl (by omega))) (fun p e => nomatch e) hh4 bt
  · exact k _ H4 (.inl ⟨_, x1⟩) (fun _ _ _ _ => rfl) (fun p e => by cases e; exact f1) hh4 bt
  · exact k _ H4 True.intro (fun _ _ _ _ => whole_no (.inr (by omega))) (fun p e => nomatch e) hh4 bt
  · exact k _ H4 True.intro (fun _ _ _ _ => rfl) (fun p e => nomatch e) hh4 bt
  · exact k _ H4 (.inr (.inl ⟨_, x2⟩)) (fun _ _ _ _ => rfl) (fun p e => by cases e; exact f2) hh4 bt
  · exact k _ H4 True.intro (fun _ _ _ _ => whole_no (.inl (by omega))) (fun p e => nomatch e) hh4 bt
  · exact k _ H4 True.intro (fun _ _ _ _ => whole_no (.inr (by omega))) (fun p e => nomatch e) hh4 bt
def sp_l_odd_coin (_ : PySem.W.Frag) : Sp := fun vs H Q _ => ∃ h q : Addr, vs = [.ref h] ∧ HandAt H h q ∧ Odd h q H Q
theorem len_l_odd_coin {vs H Q E} (h : sp_l_odd_coin K vs H Q E) : vs.length = 1 := by
  obtain ⟨_, _, rfl, _⟩ := h; rfl
theorem ok_l_odd_coin {f : Addr} {fd : FuncData} (F : Fun K "_law_odd_coin" "_law_odd_coin" s_l_odd_coin f fd) (T : Txt K mg cBadPool cBadPeople cBadPerson cBadAmount) : FnOk P w K mg base CX0 5 f fd ps_l_odd_coin (sp_l_odd_coin K) := by
  obtain ⟨f_l_odd, fd_l_odd, F_l_odd, m_l_odd, b_l_odd⟩ := T.d_l_odd
  have G_l_odd : FnOk P w K mg base CX0 4 f_l_odd fd_l_odd ps_l_odd (sp_l_odd K) := ok_l_odd F_l_odd T
  obtain ⟨f_l_draw, fd_l_draw, F_l_draw, m_l_draw, b_l_draw⟩ := T.d_l_draw
  have G_l_draw : FnOk P w K mg base CX0 2 f_l_draw fd_l_draw ps_l_draw (sp_l_draw K) := ok_l_draw F_l_draw T
  refine F.ok (k := 4) sc_l_odd_coin (fun vs H Q E h => len_l_odd_coin h) (fun cdv A outer s H vs Q E hr h => ?_)
  refine ⟨_, (pss_cons (ps_if (pt_cmpR op_gt (pe_call G_l_draw (hr.mono (by decide)) (by rfl) m_l_draw F_l_draw.kp b_l_draw .nil pass0 (pa_cons (pv 0) (pa_cons pe_int pa_nil))) pe_int (nomark _)) (pss_one (ps_ret (pe_ix ix_tup (pe_tup (pa_cons pe_int (pa_cons (pe_op op_add (pe_op op_pow pe_int pe_int) pe_int) pa_nil))) (pe_call G_l_draw (hr.mono (by decide)) (by rfl) m_l_draw F_l_draw.kp b_l_draw .nil pass0 (pa_cons (pv 0) (pa_cons pe_int pa_nil))) (fun _ _ => rfl)))) pss_nil)
      (pss_one (ps_ret (pe_call G_l_odd (hr.mono (by decide)) (by rfl) m_l_odd F_l_odd.kp b_l_odd .nil pass0 (pa_cons (pv 0) pa_nil))))), ?_⟩
  obtain ⟨h, q, rfl, hh, k⟩ := h
  have e9 : (10 : Int) ^ Int.toNat 9 = 1000000000 := by decide
  simp only [tSeq, tAsg, tDrop, tRet, tRetN, tIfS, tNext, tTest, tB, tNot, tAnd, tOr, tChain, tIf, tAndV, tOrV, tNotV, tOp, tUn, tCB, tCons, tNil, tVar, tC, tCall, tCallS, gName, rI, rI0, rU, rEq, rNe, tTup, tLst, gSub, rSetL, rIxL, rIxT, L2.start, List.map_cons, List.map_nil, List.length_cons, List.length_nil, Nat.reduceAdd, Nat.reduceSub, List.replicate_succ, List.replicate_zero, List.getElem?_cons_zero, List.getElem?_cons_succ, List.set_cons_zero, List.set_cons_succ, Option.some.injEq, exists_eq_left', exists_eq_left, exists_and_left, V.int.injEq, V.bl.injEq, V.ref.injEq, V.str.injEq, List.cons.injEq, and_true, true_and, List.nil_append, List.cons_append, List.append_nil, reduceCtorEq, false_and, exists_false, or_false, false_or, and_false, Int.reduceNeg, decide_eq_true_eq, Bool.not_eq_true', decide_eq_false_iff_not, and_assoc, tYes, ↓reduceIte, wipe, Bool.false_eq_true, Bool.true_eq_false, cxOf, false_implies, true_implies, implies_true, forall_const, spDraw, e9]
  refine ⟨q, hh, by decide, by decide, fun d H1 d0 d1 hh1 b1 => ?_⟩
  split
  · refine ⟨⟨by decide, by decide, by decide⟩, by decide, fun t ht => ⟨q, hh1.same (Same.new ht), by decide, by decide, fun j H2 j0 j1 hh2 b2 => ?_⟩⟩
    obtain ⟨x, hx, ex⟩ := atI_in (xs := [V.int 0, V.int (1000000000 + 1)]) j0 j1
    refine ⟨_, SqT.of (b2 _ _ upd_same (hh1.off ht)), x, ex, ?_⟩
    have bt : But h H H2 := (b1.trans (But.new ht)).trans b2
    simp only [List.mem_cons, List.not_mem_nil, or_false] at hx
    rcases hx with rfl | rfl
    · exact k _ H2 True.intro (whole_no (.inl (by decide))) (fun p e => nomatch e) hh2 bt
    · exact k _ H2 True.intro (whole_no (.inr (by decide))) (fun p e => nomatch e) hh2 bt
  · exact ⟨h, q, rfl, hh1, fun x H2 p1 w1 f1 hh2 b2 => k x H2 p1 (w1 1 1000000000 (by decide) (by decide)) (fun p e => by
      have z := f1 p e
      exact but_free b1 hh1 z) hh2 (b1.trans b2)⟩
end
end My
set_option Elab.async false
set_option linter.all false
set_option maxRecDepth 100000
set_option maxHeartbeats 4000000
namespace My
open PySem PySem.Spec PyProof.Rows L2 Gen
section
variable {P : Program} {w : World} {K : PySem.W.Frag} {mg : Str → Option Value} {base : Heap} { cBadPool cBadPeople cBadPerson cBadAmount : Addr}
/-- the first thing that is no coin -/
def BadAt (H : Hp) (x : V) (a : Addr) (xs : List V) (i : Nat) (y : V) : Prop := x = .ref a ∧ Row H a xs ∧ xs.length ≤ 12 ∧ (∀ j z, j < i → xs[j]? = some z → whole z 1 1000000000 = true) ∧ xs[i]? = some y ∧ whole y 1 1000000000 = false
theorem lk_place {x y : V} : List.lookup ("place" : Str) [(("what" : Str), x), (("place" : Str), y)] = some y := by
  have e : (("place" : Str) == ("what" : Str)) = false := by decide
  simp [List.lookup, e]
theorem lk_what {x y : V} : List.lookup ("what" : Str) [(("what" : Str), x), (("place" : Str), y)] = some x := by simp [List.lookup]
theorem bad_few {H : Hp} {x : V} {a : Addr} {xs : List V} {i : Nat} {y : V} (b : BadAt H x a xs i y) : FewRow H x := ⟨a, xs, b.1, b.2.1, b.2.2.1⟩
theorem ok_few {H : Hp} {x : V} {a : Addr} {ns : List Int} (b : PoolOk H x a ns) : FewRow H x := ⟨a, _, b.1, b.2.1, by rw [List.length_map]; exact b.2.2.1⟩
theorem bad_ok {H : Hp} {x : V} {a b : Addr} {xs : List V} {i : Nat} {y : V} {ns : List Int} (h : BadAt H x a xs i y) (o : PoolOk H x b ns) : False := by
  obtain ⟨rfl, r, _, _, e, wy⟩ := h
  obtain ⟨e1, r2, _, nb⟩ := o
  cases e1
  rw [Row.one r r2] at e
  obtain ⟨c, hc, rfl⟩ := nat_map e
  have cb := nb c (List.mem_of_getElem? hc)
  rw [whole_int cb.1 cb.2] at wy
  cases wy
theorem bad_one {H : Hp} {x : V} {a b : Addr} {xs zs : List V} {i j : Nat} {y z : V} (h : BadAt H x a xs i y) (o : BadAt H x b zs j z) : i = j := by
  obtain ⟨rfl, r, _, f1, e, wy⟩ := h
  obtain ⟨e1, r2, _, f2, e2, wz⟩ := o
  cases e1
  rw [Row.one r r2] at e f1
  rcases Nat.lt_trichotomy i j with g | g | g
  · rw [f2 i y g e] at wy
    cases wy
  · exact g
  · rw [f1 j z g e2] at wz
    cases wz
theorem int_inj : ∀ {ns ms : List Int}, ns.map V.int = ms.map V.int → ns = ms
  | [], [], _ => rfl
  | [], _ :: _, h => by cases h
  | _ :: _, [], h => by cases h
  | n :: ns, m :: ms, h => by
    rw [List.map_cons, List.map_cons] at h
    injection h with h1 h2
    injection h1 with h3
    rw [h3, int_inj h2]
theorem row_arg {H : Hp} {a : Addr} {ns : List Int} (hr : Row H a (ns.map V.int)) : Arg H (.ref a) := by
  refine ⟨?_, fun b xs e r y hy => ?_⟩
  · rcases hr with h | h
    · exact .inl ⟨_, h⟩
    · exact .inr (.inl ⟨_, h⟩)
  · cases e
    rw [← Row.one hr r] at hy
    obtain ⟨n, _, rfl⟩ := List.mem_map.mp hy
    exact True.intro
theorem ok_no {cB : Addr} {H : Hp} {x : V} {a : Addr} {ns : List Int} {E : XK} (o : PoolOk H x a ns) : PoolBad cB x H E := ⟨fun n => absurd (ok_few o) n, fun a xs i y e1 e2 e3 e4 e5 e6 => (bad_ok ⟨e1, e2, e3, e4, e5, e6⟩ o).elim⟩
theorem ok_one {H : Hp} {x : V} {a b : Addr} {ns ms : List Int} (o : PoolOk H x a ns) (o2 : PoolOk H x b ms) : ms = ns := by
  obtain ⟨rfl, r, _⟩ := o
  obtain ⟨e, r2, _⟩ := o2
  cases e
  exact int_inj (Row.one r2 r)
theorem ok_arg {H : Hp} {x : V} {a : Addr} {ns : List Int} (o : PoolOk H x a ns) : Arg H x := by
  obtain ⟨rfl, r, _⟩ := o
  exact row_arg r
theorem ok_same {H H' : Hp} {x : V} {a : Addr} {ns : List Int} (o : PoolOk H x a ns) (s : Same H H') : PoolOk H' x a ns := ⟨o.1, o.2.1.same s, o.2.2⟩
theorem pb_ok {cB : Addr} {H : Hp} {x : V} {a : Addr} {ns : List Int} {E : XK} (o : PoolOk H x a ns) : PoolBad cB x H E := ⟨fun n => absurd (ok_few o) n, fun b xs i y e1 e2 e3 e4 e5 e6 => (bad_ok ⟨e1, e2, e3, e4, e5, e6⟩ o).elim⟩
/-- what the suite of an error reads off it -/
def Tl (Q : VK) (H' : Hp) (d : Addr) (i : Int) (u : Str) : Prop := ∀ a, upd H' d (bad2 i u) a = none → ∃ x, upd H' d (bad2 i u) d = some (HO.xd x) ∧ ∃ x_1, List.lookup ("place" : Str) x = some x_1 ∧
  ∃ x, upd H' d (bad2 i u) d = some (HO.xd x) ∧ ∃ x_2, List.lookup ("what" : Str) x = some x_2 ∧ 2 ≤ sizeLine ∧ ∀ p, upd H' d (bad2 i u) p = none → Q (.ref p) (upd (upd H' d (bad2 i u)) p (HO.tup [x_1, x_2]))
theorem tl_of {Q : VK} {H H' : Hp} {d : Addr} {i : Int} {u : Str} (s : Same H H') (hd : H' d = none) (k : ∀ H' p, Same H H' → H' p = some (.tup [.int i, .str u]) → Q (.ref p) H') : Tl Q H' d i u :=
  fun a _ => ⟨_, upd_same, _, lk_place, _, upd_same, _, lk_what, by decide, fun p hp => k _ p (s.trans ((Same.new hd).trans (Same.new hp))) upd_same⟩
def sp_l_row_like (_ : PySem.W.Frag) : Sp := fun vs H Q _ => ∃ (p : Addr) (a b : Int), vs = [.ref p] ∧ H p = some (.tup [.int a, .int b]) ∧ ∀ H', Same H H' → Q (.bl true) H'
theorem len_l_row_like {vs H Q E} (h : sp_l_row_like K vs H Q E) : vs.length = 1 := by
  obtain ⟨_, _, _, rfl, _⟩ := h; rfl
theorem ok_l_row_like {f : Addr} {fd : FuncData} (F : Fun K "_law_row_like" "_law_row_like" s_l_row_like f fd) (T : Txt K mg cBadPool cBadPeople cBadPerson cBadAmount) : FnOk P w K mg base CX0 2 f fd ps_l_row_like (sp_l_row_like K) := by
  obtain ⟨f_l_whole, fd_l_whole, F_l_whole, m_l_whole, b_l_whole⟩ := T.d_l_whole
  have G_l_whole : FnOk P w K mg base CX0 1 f_l_whole fd_l_whole ps_l_whole (sp_l_whole K) := ok_l_whole F_l_whole T
  refine F.ok (k := 1) sc_l_row_like (fun vs H Q E h => len_l_row_like h) (fun cdv A outer s H vs Q E hr h => ?_)
  refine ⟨_, (pss_one (ps_ret (pe_and (pe_callB call_isi (by rfl) T.n_isinstance (by decide +kernel) (pa_cons (pv 0) (pa_cons (pe_bltn (v := .ty "tuple") (by rfl) T.n_tuple (by decide +kernel) rfl) pa_nil))) (pe_one (pe_callB (cr_all rfl) (by rfl) T.n_all (by decide +kernel) (pa_cons (pe_lc (own := [("_law_number", 1)]) (g := gName 1) (tt := tYes) rfl sc_l_row_like.nd (pi_tup (pv 0)) (blkOk_by (N := nm_l_row_like) (sc := defScope s_l_row_like) (by decide +kernel)) (fun _ _ _ _ _ => (pg_name (i := 1) sc_l_row_like.nd rfl (Or.inl rfl))) (fun _ _ _ _ _ => pts_nil) (fun _ _ _ _ _ => (pe_call G_l_whole (hr.mono (by decide)) (by rfl) m_l_whole F_l_whole.kp b_l_whole .nil pass0 (pa_cons (pv 1) pa_nil)))) pa_nil)))))), ?_⟩
  obtain ⟨p, a, b, rfl, hp, k⟩ := h
  simp only [tSeq, tAsg, tDrop, tRet, tRetN, tIfS, tNext, tTest, tB, tNot, tAnd, tOr, tChain, tIf, tAndV, tOrV, tNotV, tOp, tUn, tCB, tCons, tNil, tVar, tC, tCall, tCallS, gName, rI, rI0, rU, rEq, rNe, tTup, tLst, gSub, rSetL, rIxL, rIxT, L2.start, List.map_cons, List.map_nil, List.length_cons, List.length_nil, Nat.reduceAdd, Nat.reduceSub, List.replicate_succ, List.replicate_zero, List.getElem?_cons_zero, List.getElem?_cons_succ, List.set_cons_zero, List.set_cons_succ, Option.some.injEq, exists_eq_left', exists_eq_left, exists_and_left, V.int.injEq, V.bl.injEq, V.ref.injEq, V.str.injEq, List.cons.injEq, and_true, true_and, List.nil_append, List.cons_append, List.append_nil, reduceCtorEq, false_and, exists_false, or_false, false_or, and_false, Int.reduceNeg, decide_eq_true_eq, Bool.not_eq_true', decide_eq_false_iff_not, and_assoc, tYes, ↓reduceIte, wipe, Bool.false_eq_true, Bool.true_eq_false, cxOf, false_implies, true_implies, implies_true, forall_const]
  refine isi_tuple hp ⟨_, rfl, ?_⟩
  rw [if_pos rfl]
  refine ⟨_, rfl, p, rfl, ⟨_, SqT.of hp⟩, fun D hD => lc_tup (K := K) (a := p) (xs := [V.int a, V.int b]) (fun i h' => Same H h' ∧ h' D = some (.lst ((List.replicate i true).map V.bl))) ⟨Same.new hD, upd_same⟩ (fun i h' _ ⟨s, _⟩ => SqT.of (s _ _ hp)) ?_ ?_⟩
  · rintro i z h' hi ⟨s3, eD⟩
    have il := (List.getElem?_eq_some_iff.mp hi).1
    have il2 : i < 2 := il
    obtain ⟨g, rfl⟩ : ∃ g, z = V.int g := by
      have hm := List.mem_of_getElem? hi
      simp only [List.mem_cons, List.not_mem_nil, or_false] at hm
      rcases hm with rfl | rfl <;> exact ⟨_, rfl⟩
    simp only [tSeq, tAsg, tDrop, tRet, tRetN, tIfS, tNext, tTest, tB, tNot, tAnd, tOr, tChain, tIf, tAndV, tOrV, tNotV, tOp, tUn, tCB, tCons, tNil, tVar, tC, tCall, tCallS, gName, rI, rI0, rU, rEq, rNe, tTup, tLst, gSub, rSetL, rIxL, rIxT, L2.start, List.map_cons, List.map_nil, List.length_cons, List.length_nil, Nat.reduceAdd, Nat.reduceSub, List.replicate_succ, List.replicate_zero, List.getElem?_cons_zero, List.getElem?_cons_succ, List.set_cons_zero, List.set_cons_succ, Option.some.injEq, exists_eq_left', exists_eq_left, exists_and_left, V.int.injEq, V.bl.injEq, V.ref.injEq, V.str.injEq, List.cons.injEq, and_true, true_and, List.nil_append, List.cons_append, List.append_nil, reduceCtorEq, false_and, exists_false, or_false, false_or, and_false, Int.reduceNeg, decide_eq_true_eq, Bool.not_eq_true', decide_eq_false_iff_not, and_assoc, tYes, ↓reduceIte, wipe, Bool.false_eq_true, Bool.true_eq_false, cxOf, false_implies, true_implies, implies_true, forall_const, sp_l_whole, isI]
    refine ⟨True.intro, _, eD, by rw [List.length_map, List.length_replicate]; exact small1000 (by omega), fun b o e => ?_, ?_⟩
    · rw [upd_ne (ne_of_none e hD)]
      exact s3 b o e
    · rw [upd_same, show (V.bl true :: List.map V.bl (List.replicate i true)) = List.map V.bl (List.replicate (i + 1) true) by rw [List.replicate_succ]; rfl, List.replicate_succ', List.map_append]
      rfl
  · rintro h' ⟨s3, eD⟩
    exact ⟨D, _, rfl, SqL.of eD, k h' s3⟩
def sp_l_refused (_ : PySem.W.Frag) : Sp := fun vs H Q _ => ∃ (x : V) (t : Int), vs = [x, .int t] ∧ 0 ≤ t ∧ t < 3 ∧ Arg H x ∧
  ((¬ FewRow H x ∧ ∀ H' p, Same H H' → H' p = some (.tup [.int 0, .str "many"]) → Q (.ref p) H') ∨
    (∃ a xs i z, BadAt H x a xs i z ∧ ∀ H' p, Same H H' → H' p = some (.tup [.int (i : Nat), .str "coin"]) → Q (.ref p) H') ∨
    (∃ a ns, PoolOk H x a ns ∧ ∀ H' p, Same H H' → H' p = some (.tup [.str "let"]) → Q (.ref p) H'))
theorem len_l_refused {vs H Q E} (h : sp_l_refused K vs H Q E) : vs.length = 2 := by
  obtain ⟨_, _, rfl, _⟩ := h; rfl
theorem ok_l_refused {f : Addr} {fd : FuncData} (F : Fun K "_law_refused" "_law_refused" s_l_refused f fd) (T : Txt K mg cBadPool cBadPeople cBadPerson cBadAmount) : FnOk P w K mg base CX0 5 f fd ps_l_refused (sp_l_refused K) := by
  obtain ⟨f_check_pool, fd_check_pool, F_check_pool, m_check_pool, b_check_pool⟩ := T.d_check_pool
  have G_check_pool : FnOk P w K mg base (L2.CX P w) 3 f_check_pool fd_check_pool ps_check_pool (sp_check_pool K cBadPool) := ok_check_pool F_check_pool T
  obtain ⟨f_total_of, fd_total_of, F_total_of, m_total_of, b_total_of⟩ := T.d_total_of
  have G_total_of : FnOk P w K mg base (L2.CX P w) 4 f_total_of fd_total_of ps_total_of (sp_total_of K cBadPool) := ok_total_of F_total_of T
  obtain ⟨f_counted_coins, fd_counted_coins, F_counted_coins, m_counted_coins, b_counted_coins⟩ := T.d_counted_coins
  have G_counted_coins : FnOk P w K mg base (L2.CX P w) 4 f_counted_coins fd_counted_coins ps_counted_coins (sp_counted_coins K cBadPool) := ok_counted_coins F_counted_coins T
  refine F.ok (k := 4) sc_l_refused (fun vs H Q E h => len_l_refused h) (fun cdv A outer s H vs Q E hr h => ?_)
  refine ⟨_, (pss_cons (ps_set (i := 2) sc_l_refused.nd rfl (Or.inl rfl) (pe_tup (pa_cons pe_str pa_nil)))
      (pss_cons (ps_try_mix rfl rfl takes0 (fun W pn xe tk _ => (pss_one (ps_if (pt_cmpR op_eq (pv 1) pe_int (nomark _)) (pss_one (ps_expr (by exact (pe_callS G_check_pool (hr.mono (by decide)) (by rfl) m_check_pool F_check_pool.kp b_check_pool (fun σ => passAt tk σ) (pa_cons (pv 0) pa_nil))))) (pss_one (ps_if (pt_cmpR op_eq (pv 1) pe_int (nomark _)) (pss_one (ps_expr (by exact (pe_callS G_total_of (hr.mono (by decide)) (by rfl) m_total_of F_total_of.kp b_total_of (fun σ => passAt tk σ) (pa_cons (pv 0) pa_nil))))) (pss_one (ps_expr (by exact (pe_callS G_counted_coins (hr.mono (by decide)) (by rfl) m_counted_coins F_counted_coins.kp b_counted_coins (fun σ => passAt tk σ) (pa_cons (pv 0) pa_nil)))))))))) (HdsX.asn (i := 3) ⟨rfl, by decide, Or.inl T.y_BadPool.gC⟩ sc_l_refused.nd rfl rfl (fun a oe cls d pn hz hf => (pss_one (ps_set (i := 2) sc_l_refused.nd rfl (Or.inl rfl) (pe_tup (pa_cons (pe_xf T.x_BadPool T.f_BadPool_place hz hf (pv 3)) (pa_cons (pe_xf T.x_BadPool T.f_BadPool_what hz hf (pv 3)) pa_nil)))))) HdsX.nil))
      (pss_one (ps_ret (pv 2))))), ?_⟩
  obtain ⟨x, t, rfl, t0, t3, hx, k⟩ := h
  simp only [tSeq, tAsg, tDrop, tRet, tRetN, tIfS, tNext, tTest, tB, tNot, tAnd, tOr, tChain, tIf, tAndV, tOrV, tNotV, tOp, tUn, tCB, tCons, tNil, tVar, tC, tCall, tCallS, gName, rI, rI0, rU, rEq, rNe, tTup, tLst, gSub, rSetL, rIxL, rIxT, L2.start, List.map_cons, List.map_nil, List.length_cons, List.length_nil, Nat.reduceAdd, Nat.reduceSub, List.replicate_succ, List.replicate_zero, List.getElem?_cons_zero, List.getElem?_cons_succ, List.set_cons_zero, List.set_cons_succ, Option.some.injEq, exists_eq_left', exists_eq_left, exists_and_left, V.int.injEq, V.bl.injEq, V.ref.injEq, V.str.injEq, List.cons.injEq, and_true, true_and, List.nil_append, List.cons_append, List.append_nil, reduceCtorEq, false_and, exists_false, or_false, false_or, and_false, Int.reduceNeg, decide_eq_true_eq, Bool.not_eq_true', decide_eq_false_iff_not, and_assoc, tYes, ↓reduceIte, wipe, Bool.false_eq_true, Bool.true_eq_false, cxOf, false_implies, true_implies, implies_true, forall_const, sp_check_pool, sp_total_of, sp_counted_coins, PoolBad, WE, wMix, suiteOf, Ends.off, tXf, T.m_BadPool_BadPool]
  refine ⟨by decide, fun p hp => ?_⟩
  have s := Same.new (o := HO.tup [V.str (Str.ofString "let")]) hp
  have ep : upd H p (HO.tup [V.str (Str.ofString "let")]) p = some (.tup [V.str (Str.ofString "let")]) := upd_same
  generalize upd H p (HO.tup [V.str (Str.ofString "let")]) = H1 at s ep ⊢
  have hx1 := arg_same hx s
  have mx : ¬ FewRow H1 x → ∀ H' d, Same H1 H' → H' d = none → Tl Q H' d 0 "many" := fun n H' d s1 hd => by
    refine tl_of (s.trans s1) hd ?_
    rcases k with ⟨_, k⟩ | ⟨a, xs, i, z, b, k⟩ | ⟨a, ns, o, _⟩
    · exact k
    · exact absurd (few_same (bad_few b) s) n
    · exact absurd (few_same (ok_few o) s) n
  have cx : ∀ (a : Addr) (xs : List V) (i : Nat) (z : V), x = .ref a → Row H1 a xs → xs.length ≤ 12 → (∀ (j : Nat) (z : V), j < i → xs[j]? = some z → whole z 1 1000000000 = true) → xs[i]? = some z → whole z 1 1000000000 = false →
      ∀ H' d, Same H1 H' → H' d = none → Tl Q H' d i "coin" := fun a xs i z e1 e2 e3 e4 e5 e6 H' d s1 hd => by
    have bd : BadAt H x a xs i z := ⟨e1, plain_row (e1 ▸ hx.1) s e2, e3, e4, e5, e6⟩
    refine tl_of (s.trans s1) hd ?_
    rcases k with ⟨n, k⟩ | ⟨a, xs, j, z, b, k⟩ | ⟨a, ns, o, _⟩
    · exact absurd (bad_few bd) n
    · have ij := bad_one b bd
      subst ij
      exact k
    · exact (bad_ok bd o).elim
  have kx : ∀ a ns, PoolOk H1 x a ns → ∀ H', Same H1 H' → Q (.ref p) H' := fun a ns o H' s1 => by
    have o := ok_back hx s o
    rcases k with ⟨n, k⟩ | ⟨a, xs, j, z, b, k⟩ | ⟨a, ns, o, k⟩
    · exact absurd (ok_few o) n
    · exact (bad_ok b o).elim
    · exact k H' p (s.trans s1) (s1 _ _ ep)
  refine ⟨rfl, ?_⟩
  split
  · exact ⟨hx1, mx, cx, fun a ns e r l b H' _ _ s1 _ _ _ => kx a ns ⟨e, r, l, b⟩ H' s1⟩
  · refine ⟨rfl, ?_⟩
    split
    · exact ⟨hx1, mx, cx, kx⟩
    · exact ⟨hx1, mx, cx, fun a ns o H' _ _ _ s1 _ _ _ _ => kx a ns o H' s1⟩
def sp_l_people (_ : PySem.W.Frag) : Sp := fun vs H Q _ => ∃ (x : V) (lo : Int), vs = [x, .int lo] ∧ Plain H x ∧ (whole x lo 5 = true → Q x H) ∧ (whole x lo 5 = false → ∀ H', Same H H' → Q (.str "refused") H')
theorem len_l_people {vs H Q E} (h : sp_l_people K vs H Q E) : vs.length = 2 := by
  obtain ⟨_, _, rfl, _⟩ := h; rfl
theorem ok_l_people {f : Addr} {fd : FuncData} (F : Fun K "_law_people" "_law_people" s_l_people f fd) (T : Txt K mg cBadPool cBadPeople cBadPerson cBadAmount) : FnOk P w K mg base CX0 4 f fd ps_l_people (sp_l_people K) := by
  obtain ⟨f_check_people, fd_check_people, F_check_people, m_check_people, b_check_people, ds_check_people, d_check_people_1, b_check_people_1⟩ := T.d_check_people
  have G_check_people : FnOk P w K mg base (L2.CX P w) 3 f_check_people fd_check_people ps_check_people (sp_check_people K cBadPeople) := ok_check_people F_check_people T
  refine F.ok (k := 3) sc_l_people (fun vs H Q E h => len_l_people h) (fun cdv A outer s H vs Q E hr h => ?_)
  refine ⟨_, (pss_cons (ps_set (i := 2) sc_l_people.nd rfl (Or.inl rfl) pe_str)
      (pss_cons (ps_try_mix rfl rfl takes0 (fun W pn xe tk _ => (pss_one (ps_set (i := 2) sc_l_people.nd rfl (Or.inl rfl) (by exact (pe_callS G_check_people (hr.mono (by decide)) (by rfl) m_check_people F_check_people.kp b_check_people (fun σ => passAt tk σ) (pa_cons (pv 0) (pa_cons (pv 1) pa_nil))))))) (HdsX.one ⟨rfl, by decide, Or.inl T.y_BadPeople.gC⟩ (fun a oe cls d pn hz hf => (pss_one ps_pass)) HdsX.nil))
      (pss_one (ps_ret (pv 2))))), ?_⟩
  obtain ⟨x, lo, rfl, hp, q1, q2⟩ := h
  simp only [tSeq, tAsg, tDrop, tRet, tRetN, tIfS, tNext, tTest, tB, tNot, tAnd, tOr, tChain, tIf, tAndV, tOrV, tNotV, tOp, tUn, tCB, tCons, tNil, tVar, tC, tCall, tCallS, gName, rI, rI0, rU, rEq, rNe, tTup, tLst, gSub, rSetL, rIxL, rIxT, L2.start, List.map_cons, List.map_nil, List.length_cons, List.length_nil, Nat.reduceAdd, Nat.reduceSub, List.replicate_succ, List.replicate_zero, List.getElem?_cons_zero, List.getElem?_cons_succ, List.set_cons_zero, List.set_cons_succ, Option.some.injEq, exists_eq_left', exists_eq_left, exists_and_left, V.int.injEq, V.bl.injEq, V.ref.injEq, V.str.injEq, List.cons.injEq, and_true, true_and, List.nil_append, List.cons_append, List.append_nil, reduceCtorEq, false_and, exists_false, or_false, false_or, and_false, Int.reduceNeg, decide_eq_true_eq, Bool.not_eq_true', decide_eq_false_iff_not, and_assoc, tYes, ↓reduceIte, wipe, Bool.false_eq_true, Bool.true_eq_false, cxOf, false_implies, true_implies, implies_true, forall_const, sp_check_people, WE, wMix, suiteOf, Ends.off, tXf, T.m_BadPeople_BadPeople]
  exact ⟨hp, q1, fun w _ _ => q2 w H (Same.refl H)⟩
def sp_l_person (_ : PySem.W.Frag) : Sp := fun vs H Q _ => ∃ (x : V) (p : Int), vs = [.int p, x] ∧ Plain H x ∧ (whole x 0 (p - 1) = true → Q x H) ∧ (whole x 0 (p - 1) = false → ∀ H', Same H H' → Q (.str "refused") H')
theorem len_l_person {vs H Q E} (h : sp_l_person K vs H Q E) : vs.length = 2 := by
  obtain ⟨_, _, rfl, _⟩ := h; rfl
theorem ok_l_person {f : Addr} {fd : FuncData} (F : Fun K "_law_person" "_law_person" s_l_person f fd) (T : Txt K mg cBadPool cBadPeople cBadPerson cBadAmount) : FnOk P w K mg base CX0 4 f fd ps_l_person (sp_l_person K) := by
  obtain ⟨f_check_person, fd_check_person, F_check_person, m_check_person, b_check_person⟩ := T.d_check_person
  have G_check_person : FnOk P w K mg base (L2.CX P w) 3 f_check_person fd_check_person ps_check_person (sp_check_person K cBadPerson) := ok_check_person F_check_person T
  refine F.ok (k := 3) sc_l_person (fun vs H Q E h => len_l_person h) (fun cdv A outer s H vs Q E hr h => ?_)
  refine ⟨_, (pss_cons (ps_set (i := 2) sc_l_person.nd rfl (Or.inl rfl) pe_str)
      (pss_cons (ps_try_mix rfl rfl takes0 (fun W pn xe tk _ => (pss_one (ps_set (i := 2) sc_l_person.nd rfl (Or.inl rfl) (by exact (pe_callS G_check_person (hr.mono (by decide)) (by rfl) m_check_person F_check_person.kp b_check_person (fun σ => passAt tk σ) (pa_cons (pv 0) (pa_cons (pv 1) pa_nil))))))) (HdsX.one ⟨rfl, by decide, Or.inl T.y_BadPerson.gC⟩ (fun a oe cls d pn hz hf => (pss_one ps_pass)) HdsX.nil))
      (pss_one (ps_ret (pv 2))))), ?_⟩
  obtain ⟨x, p, rfl, hp, q1, q2⟩ := h
  simp only [tSeq, tAsg, tDrop, tRet, tRetN, tIfS, tNext, tTest, tB, tNot, tAnd, tOr, tChain, tIf, tAndV, tOrV, tNotV, tOp, tUn, tCB, tCons, tNil, tVar, tC, tCall, tCallS, gName, rI, rI0, rU, rEq, rNe, tTup, tLst, gSub, rSetL, rIxL, rIxT, L2.start, List.map_cons, List.map_nil, List.length_cons, List.length_nil, Nat.reduceAdd, Nat.reduceSub, List.replicate_succ, List.replicate_zero, List.getElem?_cons_zero, List.getElem?_cons_succ, List.set_cons_zero, List.set_cons_succ, Option.some.injEq, exists_eq_left', exists_eq_left, exists_and_left, V.int.injEq, V.bl.injEq, V.ref.injEq, V.str.injEq, List.cons.injEq, and_true, true_and, List.nil_append, List.cons_append, List.append_nil, reduceCtorEq, false_and, exists_false, or_false, false_or, and_false, Int.reduceNeg, decide_eq_true_eq, Bool.not_eq_true', decide_eq_false_iff_not, and_assoc, tYes, ↓reduceIte, wipe, Bool.false_eq_true, Bool.true_eq_false, cxOf, false_implies, true_implies, implies_true, forall_const, sp_check_person, WE, wMix, suiteOf, Ends.off, tXf, T.m_BadPerson_BadPerson]
  exact ⟨hp, q1, fun w _ _ => q2 w H (Same.refl H)⟩
def sp_l_amount (_ : PySem.W.Frag) : Sp := fun vs H Q _ => ∃ (x : V) (lo : Int), vs = [x, .int lo] ∧ Plain H x ∧ (whole x lo 12000000000 = true → Q x H) ∧ (whole x lo 12000000000 = false → ∀ H', Same H H' → Q (.str "refused") H')
theorem len_l_amount {vs H Q E} (h : sp_l_amount K vs H Q E) : vs.length = 2 := by
  obtain ⟨_, _, rfl, _⟩ := h; rfl
theorem ok_l_amount {f : Addr} {fd : FuncData} (F : Fun K "_law_amount" "_law_amount" s_l_amount f fd) (T : Txt K mg cBadPool cBadPeople cBadPerson cBadAmount) : FnOk P w K mg base CX0 4 f fd ps_l_amount (sp_l_amount K) := by
  obtain ⟨f_check_amount, fd_check_amount, F_check_amount, m_check_amount, b_check_amount, ds_check_amount, d_check_amount_1, b_check_amount_1⟩ := T.d_check_amount
  have G_check_amount : FnOk P w K mg base (L2.CX P w) 3 f_check_amount fd_check_amount ps_check_amount (sp_check_amount K cBadAmount) := ok_check_amount F_check_amount T
  refine F.ok (k := 3) sc_l_amount (fun vs H Q E h => len_l_amount h) (fun cdv A outer s H vs Q E hr h => ?_)
  refine ⟨_, (pss_cons (ps_set (i := 2) sc_l_amount.nd rfl (Or.inl rfl) pe_str)
      (pss_cons (ps_try_mix rfl rfl takes0 (fun W pn xe tk _ => (pss_one (ps_set (i := 2) sc_l_amount.nd rfl (Or.inl rfl) (by exact (pe_callS G_check_amount (hr.mono (by decide)) (by rfl) m_check_amount F_check_amount.kp b_check_amount (fun σ => passAt tk σ) (pa_cons (pv 0) (pa_cons (pv 1) pa_nil))))))) (HdsX.one ⟨rfl, by decide, Or.inl T.y_BadAmount.gC⟩ (fun a oe cls d pn hz hf => (pss_one ps_pass)) HdsX.nil))
      (pss_one (ps_ret (pv 2))))), ?_⟩
  obtain ⟨x, lo, rfl, hp, q1, q2⟩ := h
  simp only [tSeq, tAsg, tDrop, tRet, tRetN, tIfS, tNext, tTest, tB, tNot, tAnd, tOr, tChain, tIf, tAndV, tOrV, tNotV, tOp, tUn, tCB, tCons, tNil, tVar, tC, tCall, tCallS, gName, rI, rI0, rU, rEq, rNe, tTup, tLst, gSub, rSetL, rIxL, rIxT, L2.start, List.map_cons, List.map_nil, List.length_cons, List.length_nil, Nat.reduceAdd, Nat.reduceSub, List.replicate_succ, List.replicate_zero, List.getElem?_cons_zero, List.getElem?_cons_succ, List.set_cons_zero, List.set_cons_succ, Option.some.injEq, exists_eq_left', exists_eq_left, exists_and_left, V.int.injEq, V.bl.injEq, V.ref.injEq, V.str.injEq, List.cons.injEq, and_true, true_and, List.nil_append, List.cons_append, List.append_nil, reduceCtorEq, false_and, exists_false, or_false, false_or, and_false, Int.reduceNeg, decide_eq_true_eq, Bool.not_eq_true', decide_eq_false_iff_not, and_assoc, tYes, ↓reduceIte, wipe, Bool.false_eq_true, Bool.true_eq_false, cxOf, false_implies, true_implies, implies_true, forall_const, sp_check_amount, WE, wMix, suiteOf, Ends.off, tXf, T.m_BadAmount_BadAmount]
  exact ⟨hp, q1, fun w _ _ => q2 w H (Same.refl H)⟩
end
end My
set_option Elab.async false
set_option linter.all false
set_option maxRecDepth 100000
set_option maxHeartbeats 4000000
namespace My
open PySem PySem.Spec PyProof.Rows L2 Gen
section
variable {P : Program} {w : World} {K : PySem.W.Frag} {mg : Str → Option Value} {base : Heap} { cBadPool cBadPeople cBadPerson cBadAmount : Addr}
theorem tSeq_cut {a b : TS} {D : Ends} {σ : L2.St} {H : Hp} (h : ∀ R : TS, R = b → a { D with nx := fun σ H => R D σ H } σ H) : tSeq a b D σ H := h b rfl
/-- coins that the law holds: a list that is not the hand -/
structure Pl (h : Addr) (H : Hp) (a : Addr) (ns : List Int) : Prop where
  at_ : H a = some (.lst (ns.map V.int))
  ne : a ≠ h
  len : ns.length ≤ 12
  bd : ∀ m, m ∈ ns → 1 ≤ m ∧ m ≤ 1000000000
theorem Pl.but {h a : Addr} {H H' : Hp} {ns : List Int} (p : Pl h H a ns) (b : But h H H') : Pl h H' a ns := ⟨b _ _ p.at_ p.ne, p.ne, p.len, p.bd⟩
theorem Pl.same {h a : Addr} {H H' : Hp} {ns : List Int} (p : Pl h H a ns) (b : Same H H') : Pl h H' a ns := p.but (But.of b)
theorem Pl.ok {h a : Addr} {H : Hp} {ns : List Int} (p : Pl h H a ns) : PoolOk H (.ref a) a ns := ⟨rfl, .inr p.at_, p.len, p.bd⟩
def cplD (k : Int × Int) : PyData := .tuple [.int k.1, .int k.2]
theorem lay_cpl : ∀ ks : List (Int × Int), PyData.canLayAll0 (ks.map cplD) = true
  | [] => by simp [PyData.canLayAll0]
  | k :: r => by simp [PyData.canLayAll0, PyData.canLay0, cplD, lay_cpl r]
theorem depth_cpl : ∀ ks : List (Int × Int), PyData.depthAll (ks.map cplD) ≤ 3
  | [] => by simp [PyData.depthAll]
  | k :: r => by
    have := depth_cpl r
    simp only [List.map_cons, PyData.depthAll, PyData.depth, cplD]
    omega
theorem shaped_cpl (ks : List (Int × Int)) : SeqAt.shaped (.list (ks.map cplD)) = true := by
  have h1 := depth_cpl ks
  have h2 : PyData.depth (.list (ks.map cplD)) ≤ 64 := by simp only [PyData.depth]; omega
  show (PyData.canLay0 (.list (ks.map cplD)) && decide (PyData.depth (.list (ks.map cplD)) ≤ 64)) = true
  rw [Bool.and_eq_true]
  exact ⟨by simp only [PyData.canLay0]; exact lay_cpl ks, decide_eq_true h2⟩
theorem eqv_cpl : ∀ ks : List (Int × Int), PyData.eqvAll (ks.map cplD) (ks.map cplD) = true
  | [] => by simp [PyData.eqvAll]
  | k :: r => by simp [PyData.eqvAll, PyData.eqv, cplD, eqv_cpl r]
theorem dp_cpl {H : Hp} : ∀ {ps : List Addr} {ks : List (Int × Int)}, Cpl H ps ks → DpAll K H (ps.map V.ref) (ks.map cplD)
  | [], [], _ => .nil
  | [], _ :: _, c => by cases c.1
  | _ :: _, [], c => by cases c.1
  | p :: ps, k :: ks, c => .cons (.tup (SqT.of (c.2 0 p k rfl rfl)) (.cons (.int _) (.cons (.int _) .nil))) (dp_cpl ⟨by have := c.1; simpa using this, fun i q j a b => c.2 (i + 1) q j a b⟩)
theorem eq_cpl {H : Hp} {a b : Addr} {ps us : List Addr} {ks : List (Int × Int)} {Q : VK} (ha : H a = some (.lst (ps.map V.ref))) (hb : H b = some (.lst (us.map V.ref))) (c : Cpl H ps ks) (d : Cpl H us ks) (q : Q (.bl true) H) : rEqD K (.ref a) (.ref b) H Q := by
  refine ⟨_, _, .lst (SqL.of ha) (dp_cpl c), .lst (SqL.of hb) (dp_cpl d), shaped_cpl ks, shaped_cpl ks, ?_⟩
  rw [show PyData.eqv (.list (ks.map cplD)) (.list (ks.map cplD)) = true by simp only [PyData.eqv]; exact eqv_cpl ks]
  exact q
theorem ixN_last (n : Nat) : ixN (n + 1) (-1) = some n := by
  unfold ixN
  rw [if_neg (by decide), if_pos (by omega)]
  congr 1
  omega
theorem atI_last {xs : List V} {x : V} : atI (xs ++ [x]) (-1) = some x := by
  unfold atI
  rw [List.length_append, show xs.length + [x].length = xs.length + 1 from rfl, ixN_last]
  show (xs ++ [x])[xs.length]? = some x
  rw [List.getElem?_append_right (Nat.le_refl _), Nat.sub_self]
  rfl
def sp_l_good (_ : PySem.W.Frag) : Sp := fun vs H Q _ => ∃ (h q a : Addr) (ns : List Int), vs = [.ref h, .ref a] ∧ HandAt H h q ∧ Pl h H a ns ∧ ns.Pairwise (· ≤ ·) ∧ ∀ H', HandAt H' h q → But h H H' → Q (.bl true) H'
theorem len_l_good {vs H Q E} (h : sp_l_good K vs H Q E) : vs.length = 2 := by
  obtain ⟨_, _, _, _, rfl, _⟩ := h; rfl
theorem ok_l_good {f : Addr} {fd : FuncData} (F : Fun K "_law_good" "_law_good" s_l_good f fd) (T : Txt K mg cBadPool cBadPeople cBadPerson cBadAmount) : FnOk P w K mg base CX0 5 f fd ps_l_good (sp_l_good K) := by
  obtain ⟨f_l_turned, fd_l_turned, F_l_turned, m_l_turned, b_l_turned⟩ := T.d_l_turned
  have G_l_turned : FnOk P w K mg base CX0 3 f_l_turned fd_l_turned ps_l_turned (sp_l_turned K) := ok_l_turned F_l_turned T
  obtain ⟨f_check_pool, fd_check_pool, F_check_pool, m_check_pool, b_check_pool⟩ := T.d_check_pool
  have G_check_pool : FnOk P w K mg base (L2.CX P w) 3 f_check_pool fd_check_pool ps_check_pool (sp_check_pool K cBadPool) := ok_check_pool F_check_pool T
  obtain ⟨f_total_of, fd_total_of, F_total_of, m_total_of, b_total_of⟩ := T.d_total_of
  have G_total_of : FnOk P w K mg base (L2.CX P w) 4 f_total_of fd_total_of ps_total_of (sp_total_of K cBadPool) := ok_total_of F_total_of T
  obtain ⟨f_counted_coins, fd_counted_coins, F_counted_coins, m_counted_coins, b_counted_coins⟩ := T.d_counted_coins
  have G_counted_coins : FnOk P w K mg base (L2.CX P w) 4 f_counted_coins fd_counted_coins ps_counted_coins (sp_counted_coins K cBadPool) := ok_counted_coins F_counted_coins T
  obtain ⟨f_l_lot_like, fd_l_lot_like, F_l_lot_like, m_l_lot_like, b_l_lot_like⟩ := T.d_l_lot_like
  have G_l_lot_like : FnOk P w K mg base CX0 2 f_l_lot_like fd_l_lot_like ps_l_lot_like (sp_l_lot_like K) := ok_l_lot_like F_l_lot_like T
  obtain ⟨f_l_whole, fd_l_whole, F_l_whole, m_l_whole, b_l_whole⟩ := T.d_l_whole
  have G_l_whole : FnOk P w K mg base CX0 1 f_l_whole fd_l_whole ps_l_whole (sp_l_whole K) := ok_l_whole F_l_whole T
  obtain ⟨f_l_row_like, fd_l_row_like, F_l_row_like, m_l_row_like, b_l_row_like⟩ := T.d_l_row_like
  have G_l_row_like : FnOk P w K mg base CX0 2 f_l_row_like fd_l_row_like ps_l_row_like (sp_l_row_like K) := ok_l_row_like F_l_row_like T
  refine F.ok (k := 4) sc_l_good (fun vs H Q E h => len_l_good h) (fun cdv A outer s H vs Q E hr h => ?_)
  refine ⟨_, (pss_cons (ps_set (i := 2) sc_l_good.nd rfl (Or.inl rfl) (pe_call G_l_turned (hr.mono (by decide)) (by rfl) m_l_turned F_l_turned.kp b_l_turned .nil pass0 (pa_cons (pv 0) (pa_cons (pv 1) pa_nil))))
      (pss_cons (ps_set (i := 3) sc_l_good.nd rfl (Or.inl rfl) (pe_callTy call_list_of (by rfl) T.n_list (by decide +kernel) (pa_cons (pv 2) pa_nil)))
      (pss_cons (ps_set (i := 4) sc_l_good.nd rfl (Or.inl rfl) (pe_call G_check_pool (hr.mono (by decide)) (by rfl) m_check_pool F_check_pool.kp b_check_pool .nil passL (pa_cons (pv 2) pa_nil)))
      (pss_cons (ps_if (PW.pt (pw_or (pt_not (pt_val (pe_call G_l_lot_like (hr.mono (by decide)) (by rfl) m_l_lot_like F_l_lot_like.kp b_l_lot_like .nil pass0 (pa_cons (pv 4) pa_nil)))) (pw_or (pt_cmpR (op_neD hr.units) (pe_callTy call_list_of (by rfl) T.n_list (by decide +kernel) (pa_cons (pv 4) pa_nil)) (pv 1) (nomark _)) (pw_or1 (pt_cmpR (op_neD hr.units) (pe_callTy call_list_of (by rfl) T.n_list (by decide +kernel) (pa_cons (pv 2) pa_nil)) (pv 3) (nomark _)))))) (pss_one (ps_ret pe_bl)) pss_nil)
      (pss_cons (ps_set (i := 5) sc_l_good.nd rfl (Or.inl rfl) (pe_call G_total_of (hr.mono (by decide)) (by rfl) m_total_of F_total_of.kp b_total_of .nil passL (pa_cons (pv 2) pa_nil)))
      (pss_cons (ps_set (i := 6) sc_l_good.nd rfl (Or.inl rfl) (pe_call G_counted_coins (hr.mono (by decide)) (by rfl) m_counted_coins F_counted_coins.kp b_counted_coins .nil passL (pa_cons (pv 2) pa_nil)))
      (pss_cons (ps_if (PW.pt (pw_or (pt_not (pt_val (pe_call G_l_whole (hr.mono (by decide)) (by rfl) m_l_whole F_l_whole.kp b_l_whole .nil pass0 (pa_cons (pv 5) pa_nil)))) (pw_or (pt_cmpR op_ne (pv 5) (pe_callB (cr_sumE rfl) (by rfl) T.n_sum (by decide +kernel) (pa_cons (pv 1) pa_nil)) (nomark _)) (pw_or (pt_not (pt_val (pe_callB call_isi (by rfl) T.n_isinstance (by decide +kernel) (pa_cons (pv 6) (pa_cons (pe_bltn (v := .ty "tuple") (by rfl) T.n_tuple (by decide +kernel) rfl) pa_nil))))) (pw_or1 (pt_cmpR (op_neD hr.units) (pe_callTy call_list_of (by rfl) T.n_list (by decide +kernel) (pa_cons (pv 2) pa_nil)) (pv 3) (nomark _))))))) (pss_one (ps_ret pe_bl)) pss_nil)
      (pss_cons (ps_if (pt_not (pt_val (pe_callB (cr_all rfl) (by rfl) T.n_all (by decide +kernel) (pa_cons (pe_lc (own := [("_law_row", 7)]) (g := gName 7) (tt := tYes) rfl sc_l_good.nd (pi_tup (pv 6)) (blkOk_by (N := nm_l_good) (sc := defScope s_l_good) (by decide +kernel)) (fun _ _ _ _ _ => (pg_name (i := 7) sc_l_good.nd rfl (Or.inl rfl))) (fun _ _ _ _ _ => pts_nil) (fun _ _ _ _ _ => (pe_and (pe_call G_l_row_like (hr.mono (by decide)) (by rfl) m_l_row_like F_l_row_like.kp b_l_row_like .nil pass0 (pa_cons (pv 7) pa_nil)) (pe_one (pe_cmpR op_eq (pe_callB (call_len_seqK (K := K) rfl) (by rfl) T.n_len (by decide +kernel) (pa_cons (pv 7) pa_nil)) pe_int (nomark _)))))) pa_nil)))) (pss_one (ps_ret pe_bl)) pss_nil)
      (pss_cons (ps_set (i := 8) sc_l_good.nd rfl (Or.inl rfl) (pe_lst pa_nil))
      (pss_cons (ps_for PassesOwn.never rfl (pi_list (pv 1)) (pg_name (i := 9) sc_l_good.nd rfl (Or.inl rfl))
      (pss_cons (ps_if (PW.pt (pw_or (pt_cmpR op_eq (pe_callB call_len_seq (by rfl) T.n_len (by decide +kernel) (pa_cons (pv 8) pa_nil)) pe_int (nomark _)) (pw_or1 (pt_cmpR op_ne (pe_ix ix_tup (pe_ix ix_list (pv 8) (pe_un un_neg pe_int) (fun _ _ => rfl)) pe_int (fun _ _ => rfl)) (pv 9) (nomark _))))) (pss_one (ps_expr (pe_bm PySem.F.plainAttrs_list PySem.F.slot_list_append PySem.F.type_list_append mt_append (pv 8) (pa_cons (pe_tup (pa_cons (pv 9) (pa_cons pe_int pa_nil))) pa_nil)))) pss_nil)
      (pss_one (ps_asg (pe_tup (pa_cons (pv 9) (pa_cons (pe_op op_add (pe_ix ix_tup (pe_ix ix_list (pv 8) (pe_un un_neg pe_int) (fun _ _ => rfl)) pe_int (fun _ _ => rfl)) pe_int) pa_nil))) (pg_sub (pv 8) (pe_un un_neg pe_int) set_list)))))
      (pss_one (ps_ret (pe_cmpR (op_eqD hr.units) (pe_callTy call_list_of (by rfl) T.n_list (by decide +kernel) (pa_cons (pv 6) pa_nil)) (pv 8) (nomark _)))))))))))))), ?_⟩
  obtain ⟨h, q, a, ns, rfl, hh, pa, ss, k⟩ := h
  refine tSeq_cut fun R eR => ?_
  simp only [tSeq, tAsg, tDrop, tRet, tRetN, tIfS, tNext, tTest, tB, tNot, tAnd, tOr, tChain, tIf, tAndV, tOrV, tNotV, tOp, tUn, tCB, tCons, tNil, tVar, tC, tCall, tCallS, gName, rI, rI0, rU, rEq, rNe, tTup, tLst, gSub, rSetL, rIxL, rIxT, L2.start, List.map_cons, List.map_nil, List.length_cons, List.length_nil, Nat.reduceAdd, Nat.reduceSub, List.replicate_succ, List.replicate_zero, List.getElem?_cons_zero, List.getElem?_cons_succ, List.set_cons_zero, List.set_cons_succ, Option.some.injEq, exists_eq_left', exists_eq_left, exists_and_left, V.int.injEq, V.bl.injEq, V.ref.injEq, V.str.injEq, List.cons.injEq, and_true, true_and, List.nil_append, List.cons_append, List.append_nil, reduceCtorEq, false_and, exists_false, or_false, false_or, and_false, Int.reduceNeg, decide_eq_true_eq, Bool.not_eq_true', decide_eq_false_iff_not, and_assoc, tYes, ↓reduceIte, wipe, Bool.false_eq_true, Bool.true_eq_false, cxOf, false_implies, true_implies, implies_true, forall_const]
  refine ⟨h, q, a, ns, rfl, hh, pa.at_, pa.ne, pa.len, fun H1 G gs hh1 b1 rG nG pG => ?_⟩
  have pa1 := pa.but b1
  have oG : PoolOk H1 (.ref G) G gs := ⟨rfl, rG, by rw [pG.length_eq]; exact pa.len, fun m hm => pa.bd m (pG.mem_iff.mp hm)⟩
  subst eR
  refine tSeq_cut fun R eR => ?_
  simp only [tSeq, tAsg, tDrop, tRet, tRetN, tIfS, tNext, tTest, tB, tNot, tAnd, tOr, tChain, tIf, tAndV, tOrV, tNotV, tOp, tUn, tCB, tCons, tNil, tVar, tC, tCall, tCallS, gName, rI, rI0, rU, rEq, rNe, tTup, tLst, gSub, rSetL, rIxL, rIxT, L2.start, List.map_cons, List.map_nil, List.length_cons, List.length_nil, Nat.reduceAdd, Nat.reduceSub, List.replicate_succ, List.replicate_zero, List.getElem?_cons_zero, List.getElem?_cons_succ, List.set_cons_zero, List.set_cons_succ, Option.some.injEq, exists_eq_left', exists_eq_left, exists_and_left, V.int.injEq, V.bl.injEq, V.ref.injEq, V.str.injEq, List.cons.injEq, and_true, true_and, List.nil_append, List.cons_append, List.append_nil, reduceCtorEq, false_and, exists_false, or_false, false_or, and_false, Int.reduceNeg, decide_eq_true_eq, Bool.not_eq_true', decide_eq_false_iff_not, and_assoc, tYes, ↓reduceIte, wipe, Bool.false_eq_true, Bool.true_eq_false, cxOf, false_implies, true_implies, implies_true, forall_const]
  refine ⟨_, rG.sq, fun kp hkp => ?_⟩
  have s1 := Same.new (o := HO.lst (gs.map V.int)) hkp
  have ek : upd H1 kp (HO.lst (gs.map V.int)) kp = some (.lst (gs.map V.int)) := upd_same
  generalize upd H1 kp (HO.lst (gs.map V.int)) = H2 at s1 ek ⊢
  have fin : ∀ Hx, Same H1 Hx → Q (.bl true) Hx := fun Hx s => k Hx (hh1.same s) (b1.trans (But.of s))
  subst eR
  refine tSeq_cut fun R eR => ?_
  simp only [tSeq, tAsg, tDrop, tRet, tRetN, tIfS, tNext, tTest, tB, tNot, tAnd, tOr, tChain, tIf, tAndV, tOrV, tNotV, tOp, tUn, tCB, tCons, tNil, tVar, tC, tCall, tCallS, gName, rI, rI0, rU, rEq, rNe, tTup, tLst, gSub, rSetL, rIxL, rIxT, L2.start, List.map_cons, List.map_nil, List.length_cons, List.length_nil, Nat.reduceAdd, Nat.reduceSub, List.replicate_succ, List.replicate_zero, List.getElem?_cons_zero, List.getElem?_cons_succ, List.set_cons_zero, List.set_cons_succ, Option.some.injEq, exists_eq_left', exists_eq_left, exists_and_left, V.int.injEq, V.bl.injEq, V.ref.injEq, V.str.injEq, List.cons.injEq, and_true, true_and, List.nil_append, List.cons_append, List.append_nil, reduceCtorEq, false_and, exists_false, or_false, false_or, and_false, Int.reduceNeg, decide_eq_true_eq, Bool.not_eq_true', decide_eq_false_iff_not, and_assoc, tYes, ↓reduceIte, wipe, Bool.false_eq_true, Bool.true_eq_false, cxOf, false_implies, true_implies, implies_true, forall_const]
  have bn : ∀ {Hx E}, Same H1 Hx → PoolBad cBadPool (.ref G) Hx E := fun s => pb_ok (ok_same oG s)
  refine bad_ok2 (ok_arg (ok_same oG s1)) (bn s1) fun c us o2 H3 t zs s2 et p1 p2 => ?_
  rw [ok_one (ok_same oG s1) o2] at p1
  have ez : zs = ns := PySem.W.os_sorted_one (p1.trans pG) p2 ss
  subst ez
  have s12 := s1.trans s2
  subst eR
  refine tSeq_cut fun R eR => ?_
  simp only [tSeq, tAsg, tDrop, tRet, tRetN, tIfS, tNext, tTest, tB, tNot, tAnd, tOr, tChain, tIf, tAndV, tOrV, tNotV, tOp, tUn, tCB, tCons, tNil, tVar, tC, tCall, tCallS, gName, rI, rI0, rU, rEq, rNe, tTup, tLst, gSub, rSetL, rIxL, rIxT, L2.start, List.map_cons, List.map_nil, List.length_cons, List.length_nil, Nat.reduceAdd, Nat.reduceSub, List.replicate_succ, List.replicate_zero, List.getElem?_cons_zero, List.getElem?_cons_succ, List.set_cons_zero, List.set_cons_succ, Option.some.injEq, exists_eq_left', exists_eq_left, exists_and_left, V.int.injEq, V.bl.injEq, V.ref.injEq, V.str.injEq, List.cons.injEq, and_true, true_and, List.nil_append, List.cons_append, List.append_nil, reduceCtorEq, false_and, exists_false, or_false, false_or, and_false, Int.reduceNeg, decide_eq_true_eq, Bool.not_eq_true', decide_eq_false_iff_not, and_assoc, tYes, ↓reduceIte, wipe, Bool.false_eq_true, Bool.true_eq_false, cxOf, false_implies, true_implies, implies_true, forall_const]
  have pa3 := (pa1.same s12)
  refine ⟨t, zs, rfl, (by obtain ⟨o, e, _⟩ := et; exact .inr ⟨o, e⟩), pa.len, fun m hm => (pa.bd m hm).1, ss, fun H4 s4 => ⟨_, rfl, ?_⟩⟩
  rw [if_neg (fun z => by cases z)]
  have et4 := et.same s4
  refine ⟨_, .inr et4.sq, fun u hu => ?_⟩
  have su := Same.new (o := HO.lst (zs.map V.int)) hu
  refine ne_listI (SqL.of upd_same) (SqL.of (su _ _ (s4 _ _ pa3.at_))) ⟨_, rfl, ?_⟩
  rw [decide_eq_true rfl, if_neg (fun z => by cases z)]
  have s15 := s12.trans (s4.trans su)
  have kept : ∀ (Hx : Hp) (Q' : VK), Same H1 Hx → Hx kp = some (.lst (gs.map V.int)) → (∀ H', Same Hx H' → H' kp = some (.lst (gs.map V.int)) → Q' (.bl false) H') → ∃ x, (SqL K Hx G x ∨ SqT K Hx G x) ∧ ∀ (l : Addr), Hx l = none → rNeD K (V.ref l) (V.ref kp) (upd Hx l (HO.lst x)) Q' := fun Hx Q' s e q =>
    ⟨_, (rG.same s).sq, fun v hv => ne_listI (SqL.of upd_same) (SqL.of ((Same.new hv) _ _ e)) (by rw [decide_eq_true rfl]; exact q _ (Same.new hv) ((Same.new hv) _ _ e))⟩
  have ek5 := su _ _ (s4 _ _ (s2 _ _ ek))
  refine kept _ _ s15 ek5 fun H5 s5' ek5 => ⟨_, rfl, ?_⟩
  have s5 := s15.trans s5'
  rw [if_neg (fun z => by cases z)]
  clear s15 su hu et4 et s4 s2 ek o2 p1 p2 pa3 hkp s1 s12
  subst eR
  refine tSeq_cut fun R eR => ?_
  simp only [tSeq, tAsg, tDrop, tRet, tRetN, tIfS, tNext, tTest, tB, tNot, tAnd, tOr, tChain, tIf, tAndV, tOrV, tNotV, tOp, tUn, tCB, tCons, tNil, tVar, tC, tCall, tCallS, gName, rI, rI0, rU, rEq, rNe, tTup, tLst, gSub, rSetL, rIxL, rIxT, L2.start, List.map_cons, List.map_nil, List.length_cons, List.length_nil, Nat.reduceAdd, Nat.reduceSub, List.replicate_succ, List.replicate_zero, List.getElem?_cons_zero, List.getElem?_cons_succ, List.set_cons_zero, List.set_cons_succ, Option.some.injEq, exists_eq_left', exists_eq_left, exists_and_left, V.int.injEq, V.bl.injEq, V.ref.injEq, V.str.injEq, List.cons.injEq, and_true, true_and, List.nil_append, List.cons_append, List.append_nil, reduceCtorEq, false_and, exists_false, or_false, false_or, and_false, Int.reduceNeg, decide_eq_true_eq, Bool.not_eq_true', decide_eq_false_iff_not, and_assoc, tYes, ↓reduceIte, wipe, Bool.false_eq_true, Bool.true_eq_false, cxOf, false_implies, true_implies, implies_true, forall_const, sp_total_of]
  refine ⟨ok_arg (ok_same oG s5), bn s5, fun c us o2 H6 s6 => ?_⟩
  rw [ok_one (ok_same oG s5) o2]
  have s16 := s5.trans s6
  have ek6 := s6 _ _ ek5
  subst eR
  refine tSeq_cut fun R eR => ?_
  simp only [tSeq, tAsg, tDrop, tRet, tRetN, tIfS, tNext, tTest, tB, tNot, tAnd, tOr, tChain, tIf, tAndV, tOrV, tNotV, tOp, tUn, tCB, tCons, tNil, tVar, tC, tCall, tCallS, gName, rI, rI0, rU, rEq, rNe, tTup, tLst, gSub, rSetL, rIxL, rIxT, L2.start, List.map_cons, List.map_nil, List.length_cons, List.length_nil, Nat.reduceAdd, Nat.reduceSub, List.replicate_succ, List.replicate_zero, List.getElem?_cons_zero, List.getElem?_cons_succ, List.set_cons_zero, List.set_cons_succ, Option.some.injEq, exists_eq_left', exists_eq_left, exists_and_left, V.int.injEq, V.bl.injEq, V.ref.injEq, V.str.injEq, List.cons.injEq, and_true, true_and, List.nil_append, List.cons_append, List.append_nil, reduceCtorEq, false_and, exists_false, or_false, false_or, and_false, Int.reduceNeg, decide_eq_true_eq, Bool.not_eq_true', decide_eq_false_iff_not, and_assoc, tYes, ↓reduceIte, wipe, Bool.false_eq_true, Bool.true_eq_false, cxOf, false_implies, true_implies, implies_true, forall_const, sp_counted_coins]
  refine ⟨ok_arg (ok_same oG s16), bn s16, fun c us o3 H7 b ps ws s7 eb un cp wl => ?_⟩
  rw [ok_one (ok_same oG s16) o3] at un cp
  have s17 := s16.trans s7
  have ek7 := s7 _ _ ek6
  have cz : cnt ws gs = cnt ws zs := by
    unfold cnt
    congr 1
    funext w
    rw [pG.count_eq]
  rw [cz] at cp
  have un2 : Uni ws zs := ⟨un.1, fun x => by rw [un.2, pG.mem_iff]⟩
  subst eR
  refine tSeq_cut fun R eR => ?_
  simp only [tSeq, tAsg, tDrop, tRet, tRetN, tIfS, tNext, tTest, tB, tNot, tAnd, tOr, tChain, tIf, tAndV, tOrV, tNotV, tOp, tUn, tCB, tCons, tNil, tVar, tC, tCall, tCallS, gName, rI, rI0, rU, rEq, rNe, tTup, tLst, gSub, rSetL, rIxL, rIxT, L2.start, List.map_cons, List.map_nil, List.length_cons, List.length_nil, Nat.reduceAdd, Nat.reduceSub, List.replicate_succ, List.replicate_zero, List.getElem?_cons_zero, List.getElem?_cons_succ, List.set_cons_zero, List.set_cons_succ, Option.some.injEq, exists_eq_left', exists_eq_left, exists_and_left, V.int.injEq, V.bl.injEq, V.ref.injEq, V.str.injEq, List.cons.injEq, and_true, true_and, List.nil_append, List.cons_append, List.append_nil, reduceCtorEq, false_and, exists_false, or_false, false_or, and_false, Int.reduceNeg, decide_eq_true_eq, Bool.not_eq_true', decide_eq_false_iff_not, and_assoc, tYes, ↓reduceIte, wipe, Bool.false_eq_true, Bool.true_eq_false, cxOf, false_implies, true_implies, implies_true, forall_const, sp_l_whole, isI, rSumE]
  refine ⟨True.intro, zs, .inl (SqL.of (pa1.same s17).at_), rfl, ?_⟩
  rw [if_neg (fun z => z (sum_perm pG))]
  refine isi_tuple eb ⟨_, rfl, ?_⟩
  rw [if_neg (fun z => by cases z)]
  refine kept _ _ s17 ek7 fun H8 s8 ek8 => ⟨_, rfl, ?_⟩
  rw [if_neg (fun z => by cases z)]
  have s18 := s17.trans s8
  have eb8 := s8 _ _ eb
  have cp8 := cp.same s8
  clear ek8 ek7 ek6 ek5 s16 s6 s7 o2 o3 cz un
  subst eR
  refine tSeq_cut fun R eR => ?_
  simp only [tSeq, tAsg, tDrop, tRet, tRetN, tIfS, tNext, tTest, tB, tNot, tAnd, tOr, tChain, tIf, tAndV, tOrV, tNotV, tOp, tUn, tCB, tCons, tNil, tVar, tC, tCall, tCallS, gName, rI, rI0, rU, rEq, rNe, tTup, tLst, gSub, rSetL, rIxL, rIxT, L2.start, List.map_cons, List.map_nil, List.length_cons, List.length_nil, Nat.reduceAdd, Nat.reduceSub, List.replicate_succ, List.replicate_zero, List.getElem?_cons_zero, List.getElem?_cons_succ, List.set_cons_zero, List.set_cons_succ, Option.some.injEq, exists_eq_left', exists_eq_left, exists_and_left, V.int.injEq, V.bl.injEq, V.ref.injEq, V.str.injEq, List.cons.injEq, and_true, true_and, List.nil_append, List.cons_append, List.append_nil, reduceCtorEq, false_and, exists_false, or_false, false_or, and_false, Int.reduceNeg, decide_eq_true_eq, Bool.not_eq_true', decide_eq_false_iff_not, and_assoc, tYes, ↓reduceIte, wipe, Bool.false_eq_true, Bool.true_eq_false, cxOf, false_implies, true_implies, implies_true, forall_const]
  refine ⟨_, rfl, b, rfl, ⟨_, SqT.of eb8⟩, fun D hD => lc_tup (K := K) (a := b) (xs := ps.map V.ref) (fun i h' => Same H8 h' ∧ h' D = some (.lst ((List.replicate i true).map V.bl))) ⟨Same.new hD, upd_same⟩ (fun i h' _ ⟨s, _⟩ => SqT.of (s _ _ eb8)) ?_ ?_⟩
  · rintro i z h' hi ⟨s3, eD⟩
    rw [List.getElem?_map] at hi
    obtain ⟨p, hp, rfl⟩ := Option.map_eq_some_iff.mp hi
    have il := (List.getElem?_eq_some_iff.mp hp).1
    have kl : i < (cnt ws zs).length := cp8.1 ▸ il
    have ep := (cp8.same s3).2 i p _ hp (List.getElem?_eq_getElem kl)
    have il2 : i < 12 := by
      have := cp8.1
      unfold cnt at this
      rw [List.length_map] at this
      omega
    simp only [tSeq, tAsg, tDrop, tRet, tRetN, tIfS, tNext, tTest, tB, tNot, tAnd, tOr, tChain, tIf, tAndV, tOrV, tNotV, tOp, tUn, tCB, tCons, tNil, tVar, tC, tCall, tCallS, gName, rI, rI0, rU, rEq, rNe, tTup, tLst, gSub, rSetL, rIxL, rIxT, L2.start, List.map_cons, List.map_nil, List.length_cons, List.length_nil, Nat.reduceAdd, Nat.reduceSub, List.replicate_succ, List.replicate_zero, List.getElem?_cons_zero, List.getElem?_cons_succ, List.set_cons_zero, List.set_cons_succ, Option.some.injEq, exists_eq_left', exists_eq_left, exists_and_left, V.int.injEq, V.bl.injEq, V.ref.injEq, V.str.injEq, List.cons.injEq, and_true, true_and, List.nil_append, List.cons_append, List.append_nil, reduceCtorEq, false_and, exists_false, or_false, false_or, and_false, Int.reduceNeg, decide_eq_true_eq, Bool.not_eq_true', decide_eq_false_iff_not, and_assoc, tYes, ↓reduceIte, wipe, Bool.false_eq_true, Bool.true_eq_false, cxOf, false_implies, true_implies, implies_true, forall_const]
    refine ⟨p, _, _, rfl, ep, fun H' s' => ⟨_, rfl, ?_⟩⟩
    rw [if_pos rfl]
    refine ⟨_, .inr (SqT.of (s' _ _ ep)), rfl, _, s' _ _ eD, by rw [List.length_map, List.length_replicate]; exact small1000 (by omega), fun c o e => ?_, ?_⟩
    · rw [upd_ne (ne_of_none e hD)]
      exact s' _ _ (s3 c o e)
    · rw [upd_same, show (V.bl true :: List.map V.bl (List.replicate i true)) = List.map V.bl (List.replicate (i + 1) true) by rw [List.replicate_succ]; rfl, List.replicate_succ', List.map_append]
      rfl
  rintro H9 ⟨s9, eD⟩
  refine ⟨D, _, rfl, SqL.of eD, _, rfl, ?_⟩
  rw [if_neg (by simp)]
  have s19 := s18.trans s9
  have eb9 := s9 _ _ eb8
  have cp9 := cp8.same s9
  clear eD hD s9 eb8 cp8 s18 s8 eb cp
  subst eR
  refine tSeq_cut fun R eR => ?_
  simp only [tSeq, tAsg, tDrop, tRet, tRetN, tIfS, tNext, tTest, tB, tNot, tAnd, tOr, tChain, tIf, tAndV, tOrV, tNotV, tOp, tUn, tCB, tCons, tNil, tVar, tC, tCall, tCallS, gName, rI, rI0, rU, rEq, rNe, tTup, tLst, gSub, rSetL, rIxL, rIxT, L2.start, List.map_cons, List.map_nil, List.length_cons, List.length_nil, Nat.reduceAdd, Nat.reduceSub, List.replicate_succ, List.replicate_zero, List.getElem?_cons_zero, List.getElem?_cons_succ, List.set_cons_zero, List.set_cons_succ, Option.some.injEq, exists_eq_left', exists_eq_left, exists_and_left, V.int.injEq, V.bl.injEq, V.ref.injEq, V.str.injEq, List.cons.injEq, and_true, true_and, List.nil_append, List.cons_append, List.append_nil, reduceCtorEq, false_and, exists_false, or_false, false_or, and_false, Int.reduceNeg, decide_eq_true_eq, Bool.not_eq_true', decide_eq_false_iff_not, and_assoc, tYes, ↓reduceIte, wipe, Bool.false_eq_true, Bool.true_eq_false, cxOf, false_implies, true_implies, implies_true, forall_const]
  refine ⟨Nat.zero_le _, fun du hdu => ?_⟩
  have s1d := s19.trans (Same.new (o := HO.lst []) hdu)
  have pad := pa1.same s1d
  have nda : du ≠ a := fun z => by rw [z, (pa1.same s19).at_] at hdu; cases hdu
  subst eR
  refine tSeq_cut fun R eR => ?_
  refine ⟨_, rfl, a, rfl, ⟨_, SqL.of pad.at_⟩, for_list (K := K) (a := a) (xs := zs.map V.int) (fun i z H' => ∃ (us : List Addr) (vs : List Int) (v7 v9 : Option V), z = [some (V.ref h), some (V.ref a), some (V.ref G), some (V.ref kp), some (V.ref t), some (V.int gs.sum), some (V.ref b), v7, some (V.ref du), v9] ∧ Same H9 H' ∧ H' du = some (.lst (us.map V.ref)) ∧ Uni vs (zs.take i) ∧ Cpl H' us (cnt vs (zs.take i)) ∧ us.length ≤ i)
    ⟨[], [], none, none, rfl, Same.new hdu, upd_same, ⟨List.Pairwise.nil, fun x => Iff.rfl⟩, Cpl.nil, Nat.le_refl 0⟩ (fun i z H' _ ⟨_, _, _, _, _, s, _⟩ => SqL.of ((pa1.same (s19.trans s)).at_)) ?_ ?_⟩
  · rintro i y z H' hi ⟨us, vs, v7, v9, rfl, s, ed, uv, cv, ul⟩
    obtain ⟨g, hg, rfl⟩ := nat_map hi
    have il := (List.getElem?_eq_some_iff.mp hg).1
    have eT : zs.take (i + 1) = zs.take i ++ [g] := by rw [List.take_add_one, hg]; rfl
    have sT : ∀ x, x ∈ zs.take i → x ≤ g := fun x hx => by
      have z := ss.sublist (List.take_sublist (i + 1) zs)
      rw [eT] at z
      exact (List.pairwise_append.mp z).2.2 x hx g List.mem_cons_self
    have cu : ∀ w, (zs.take (i + 1)).count w = (zs.take i).count w + if w = g then 1 else 0 := fun w => by
      rw [eT, List.count_append]
      by_cases e : w = g
      · subst e
        simp
      · rw [if_neg e, List.count_singleton, if_neg (by simpa using Ne.symm e)]
    show tSeq _ _ _ _ _
    refine tSeq_cut fun R2 eR2 => ?_
    obtain ⟨D2, hD2⟩ : ∃ D2 : Ends, D2 = { nx := fun z H' => ∃ (us : List Addr) (vs : List Int) (v7 v9 : Option V), z = [some (V.ref h), some (V.ref a), some (V.ref G), some (V.ref kp), some (V.ref t), some (V.int gs.sum), some (V.ref b), v7, some (V.ref du), v9] ∧ Same H9 H' ∧ H' du = some (.lst (us.map V.ref)) ∧ Uni vs (zs.take (i + 1)) ∧ Cpl H' us (cnt vs (zs.take (i + 1))) ∧ us.length ≤ i + 1, rt := Q, bk := fun σ H => R { nx := fun x H' => Q V.non H', rt := Q } σ H, ct := fun z H' => ∃ (us : List Addr) (vs : List Int) (v7 v9 : Option V), z = [some (V.ref h), some (V.ref a), some (V.ref G), some (V.ref kp), some (V.ref t), some (V.int gs.sum), some (V.ref b), v7, some (V.ref du), v9] ∧ Same H9 H' ∧ H' du = some (.lst (us.map V.ref)) ∧ Uni vs (zs.take (i + 1)) ∧ Cpl H' us (cnt vs (zs.take (i + 1))) ∧ us.length ≤ i + 1 } := ⟨_, rfl⟩
    suffices cont : ∀ (Hx : Hp) (us0 : List Addr) (u : Addr) (ws0 : List Int) (v9 : Option V), Same H9 Hx → Hx du = some (.lst ((us0 ++ [u]).map V.ref)) → Uni (ws0 ++ [g]) (zs.take (i + 1)) → g ∉ ws0 → Cpl Hx us0 (cnt ws0 (zs.take i)) → Hx u = some (.tup [.int g, .int ((zs.take i).count g : Nat)]) → us0.length ≤ i →
        R2 D2
          [some (V.ref h), some (V.ref a), some (V.ref G), some (V.ref kp), some (V.ref t), some (V.int gs.sum), some (V.ref b), v7, some (V.ref du), some (V.int g)] Hx by
      have tl : us.length = vs.length := by
        have z := cv.1
        unfold cnt at z
        rwa [List.length_map] at z
      have um : ∀ x, x ∈ zs.take (i + 1) ↔ x ∈ zs.take i ∨ x = g := fun x => by rw [eT, List.mem_append, List.mem_singleton]
      -- a number that is new
      have fresh : g ∉ vs → ∀ p, H' p = none → ∃ x, upd H' p (HO.tup [V.int g, V.int 0]) du = some (HO.lst x) ∧ x.length < sizeLine ∧
          R2 D2
          [some (V.ref h), some (V.ref a), some (V.ref G), some (V.ref kp), some (V.ref t), some (V.int gs.sum), some (V.ref b), v7, some (V.ref du), some (V.int g)] (upd (upd H' p (HO.tup [V.int g, V.int 0])) du (HO.lst (x ++ [V.ref p]))) := by
        intro gn p hp
        have sp := Same.new (o := HO.tup [V.int g, V.int 0]) hp
        have npd : p ≠ du := fun z => by rw [z, ed] at hp; cases hp
        have gT : g ∉ zs.take i := fun z => gn ((uv.2 g).mpr z)
        refine ⟨_, sp _ _ ed, by rw [List.length_map]; exact small1000 (by have := pa.len; omega), cont _ us p vs v9 (fun c o e => ?_) (by rw [upd_same, List.map_append]; rfl) ⟨List.pairwise_append.mpr ⟨uv.1, List.pairwise_singleton _ _, fun x hx y hy => ?_⟩, fun x => ?_⟩ gn ?_ ?_ ul⟩
        · rw [upd_ne (ne_of_none e hdu)]
          exact sp _ _ (s c o e)
        · rw [List.mem_singleton.mp hy]
          exact Int.lt_iff_le_and_ne.mpr ⟨sT x ((uv.2 x).mp hx), fun z => gn (by rw [← z]; exact hx)⟩
        · rw [List.mem_append, List.mem_singleton, uv.2, um]
        · refine ⟨cv.1, fun j p2 k c d => ?_⟩
          have z := cv.2 j p2 k c d
          rw [upd_ne (fun e => by rw [e, ed] at z; cases z)]
          exact sp _ _ z
        · rw [upd_ne npd, upd_same, List.count_eq_zero_of_not_mem gT]
          rfl
      subst hD2
      simp only [tSeq, tAsg, tDrop, tRet, tRetN, tIfS, tNext, tTest, tB, tNot, tAnd, tOr, tChain, tIf, tAndV, tOrV, tNotV, tOp, tUn, tCB, tCons, tNil, tVar, tC, tCall, tCallS, gName, rI, rI0, rU, rEq, rNe, tTup, tLst, gSub, rSetL, rIxL, rIxT, L2.start, List.map_cons, List.map_nil, List.length_cons, List.length_nil, Nat.reduceAdd, Nat.reduceSub, List.replicate_succ, List.replicate_zero, List.getElem?_cons_zero, List.getElem?_cons_succ, List.set_cons_zero, List.set_cons_succ, Option.some.injEq, exists_eq_left', exists_eq_left, exists_and_left, V.int.injEq, V.bl.injEq, V.ref.injEq, V.str.injEq, List.cons.injEq, and_true, true_and, List.nil_append, List.cons_append, List.append_nil, reduceCtorEq, false_and, exists_false, or_false, false_or, and_false, Int.reduceNeg, decide_eq_true_eq, Bool.not_eq_true', decide_eq_false_iff_not, and_assoc, tYes, ↓reduceIte, wipe, Bool.false_eq_true, Bool.true_eq_false, cxOf, false_implies, true_implies, implies_true, forall_const, tBM, rAppend]
      refine ⟨_, .inl (SqL.of ed), rfl, ?_⟩
      rw [List.length_map]
      split
      · rename_i e0
        have vn : vs = [] := List.length_eq_zero_iff.mp (by omega)
        exact ⟨.inl ⟨rfl, _, SqL.of ed⟩, by decide, fun p hp => fresh (by rw [vn]; exact List.not_mem_nil) p hp⟩
      · rename_i e0
        rcases List.eq_nil_or_concat us with e | ⟨us0, u, e⟩
        · rw [e] at e0
          exact absurd rfl e0
        rcases List.eq_nil_or_concat vs with e2 | ⟨ws0, m, e2⟩
        · rw [e2] at tl
          exact absurd (by rw [tl]; rfl) e0
        rw [List.concat_eq_append] at e e2
        have eu : H' u = some (.tup [.int m, .int ((zs.take i).count m : Nat)]) := by
          have z := cv.2 us0.length u (m, ((zs.take i).count m : Nat)) (by rw [e, List.getElem?_append_right (Nat.le_refl _), Nat.sub_self]; rfl) (by
            have l0 : us0.length = ws0.length := by rw [e, e2, List.length_append, List.length_append] at tl; simpa using tl
            unfold cnt
            rw [e2, List.map_append, l0, List.getElem?_append_right (by rw [List.length_map]; exact Nat.le_refl _), List.length_map, Nat.sub_self]
            rfl)
          exact z
        have mm : m ∈ zs.take i := (uv.2 m).mp (by rw [e2]; exact List.mem_append.mpr (.inr List.mem_cons_self))
        refine ⟨_, SqL.of ed, V.ref u, by rw [e, List.map_append]; exact atI_last, u, rfl, _, SqT.of eu, _, atI_nat (j := 0) rfl, rfl, ?_⟩
        split
        · rename_i ne
          have ne2 : m ≠ g := fun z => ne (by rw [z])
          refine ⟨.inl ⟨rfl, _, SqL.of ed⟩, by decide, fun p hp => fresh (fun z => ?_) p hp⟩
          have gm : g ≤ m := by
            rw [e2] at z
            rcases List.mem_append.mp z with z | z
            · have y := (List.pairwise_append.mp (e2 ▸ uv.1)).2.2 g z m List.mem_cons_self
              omega
            · rw [List.mem_singleton.mp z]
              exact Int.le_refl _
          have := sT m mm
          omega
        · rename_i ne
          have ne2 : m = g := by
            have z := Classical.not_not.mp ne
            injection z
          subst ne2
          refine cont H' us0 u ws0 v9 s (by rw [ed, e]) ⟨e2 ▸ uv.1, fun x => ?_⟩ (fun z => ?_) ⟨?_, fun j p2 k c d => ?_⟩ eu (by rw [e, List.length_append] at ul; have : [u].length = 1 := rfl; omega)
          · rw [← e2, uv.2, um]
            refine ⟨.inl, fun z => ?_⟩
            rcases z with z | z
            · exact z
            · rw [z]
              exact mm
          · have y := (List.pairwise_append.mp (e2 ▸ uv.1)).2.2 _ z _ List.mem_cons_self
            omega
          · have l0 : us0.length = ws0.length := by rw [e, e2, List.length_append, List.length_append] at tl; simpa using tl
            unfold cnt
            rw [List.length_map, l0]
          · have l0 : us0.length = ws0.length := by rw [e, e2, List.length_append, List.length_append] at tl; simpa using tl
            have jl := (List.getElem?_eq_some_iff.mp c).1
            refine cv.2 j p2 k (by rw [e, List.getElem?_append_left jl]; exact c) ?_
            unfold cnt at d ⊢
            rw [e2, List.map_append, List.getElem?_append_left (by rw [List.length_map, ← l0]; exact jl)]
            exact d
    intro Hx us0 u ws0 v9 sx ex ux gn cx eu ul0
    subst hD2
    subst eR2
    simp only [tSeq, tAsg, tDrop, tRet, tRetN, tIfS, tNext, tTest, tB, tNot, tAnd, tOr, tChain, tIf, tAndV, tOrV, tNotV, tOp, tUn, tCB, tCons, tNil, tVar, tC, tCall, tCallS, gName, rI, rI0, rU, rEq, rNe, tTup, tLst, gSub, rSetL, rIxL, rIxT, L2.start, List.map_cons, List.map_nil, List.length_cons, List.length_nil, Nat.reduceAdd, Nat.reduceSub, List.replicate_succ, List.replicate_zero, List.getElem?_cons_zero, List.getElem?_cons_succ, List.set_cons_zero, List.set_cons_succ, Option.some.injEq, exists_eq_left', exists_eq_left, exists_and_left, V.int.injEq, V.bl.injEq, V.ref.injEq, V.str.injEq, List.cons.injEq, and_true, true_and, List.nil_append, List.cons_append, List.append_nil, reduceCtorEq, false_and, exists_false, or_false, false_or, and_false, Int.reduceNeg, decide_eq_true_eq, Bool.not_eq_true', decide_eq_false_iff_not, and_assoc, tYes, ↓reduceIte, wipe, Bool.false_eq_true, Bool.true_eq_false, cxOf, false_implies, true_implies, implies_true, forall_const]
    refine ⟨_, SqL.of ex, V.ref u, by rw [List.map_append]; exact atI_last, u, rfl, _, SqT.of eu, _, atI_nat (j := 1) rfl, _, rfl, by decide, fun p hp => ?_⟩
    have sp := Same.new (o := HO.tup [V.int g, V.int (((zs.take i).count g : Nat) + 1)]) hp
    have npd : p ≠ du := fun z => by rw [z, ex] at hp; cases hp
    refine ⟨_, sp _ _ ex, us0.length, ?_, fun c o e => ?_, us0 ++ [p], ?_, ws0 ++ [g], ux, ?_, by rw [List.length_append]; show us0.length + 1 ≤ _; omega⟩
    · rw [List.length_map, List.length_append]
      exact ixN_last _
    · rw [upd_ne (ne_of_none e hdu)]
      exact sp _ _ (sx c o e)
    · rw [upd_same, List.map_append, List.map_append, List.set_append_right _ _ (by rw [List.length_map]; exact Nat.le_refl _), List.length_map, Nat.sub_self]
      rfl
    · have ec : cnt (ws0 ++ [g]) (zs.take (i + 1)) = cnt ws0 (zs.take i) ++ [(g, (((zs.take i).count g : Nat) : Int) + 1)] := by
        unfold cnt
        rw [List.map_append]
        congr 1
        · refine List.map_congr_left fun w hw => ?_
          rw [cu, if_neg (fun z => gn (by rw [← z]; exact hw)), Nat.add_zero]
        · show [(g, (((zs.take (i + 1)).count g : Nat) : Int))] = _
          rw [cu, if_pos rfl]
          rfl
      rw [ec]
      refine Cpl.snoc ⟨cx.1, fun j p2 k c d => ?_⟩ ?_
      · have z := cx.2 j p2 k c d
        rw [upd_ne (fun e => by rw [e, ex] at z; cases z)]
        exact sp _ _ z
      · rw [upd_ne npd, upd_same]
  · rintro z H' ⟨us, vs, v7, v9, rfl, s, ed, uv, cv, ul⟩
    rw [List.length_map, List.take_length] at uv cv
    subst eR
    simp only [tSeq, tAsg, tDrop, tRet, tRetN, tIfS, tNext, tTest, tB, tNot, tAnd, tOr, tChain, tIf, tAndV, tOrV, tNotV, tOp, tUn, tCB, tCons, tNil, tVar, tC, tCall, tCallS, gName, rI, rI0, rU, rEq, rNe, tTup, tLst, gSub, rSetL, rIxL, rIxT, L2.start, List.map_cons, List.map_nil, List.length_cons, List.length_nil, Nat.reduceAdd, Nat.reduceSub, List.replicate_succ, List.replicate_zero, List.getElem?_cons_zero, List.getElem?_cons_succ, List.set_cons_zero, List.set_cons_succ, Option.some.injEq, exists_eq_left', exists_eq_left, exists_and_left, V.int.injEq, V.bl.injEq, V.ref.injEq, V.str.injEq, List.cons.injEq, and_true, true_and, List.nil_append, List.cons_append, List.append_nil, reduceCtorEq, false_and, exists_false, or_false, false_or, and_false, Int.reduceNeg, decide_eq_true_eq, Bool.not_eq_true', decide_eq_false_iff_not, and_assoc, tYes, ↓reduceIte, wipe, Bool.false_eq_true, Bool.true_eq_false, cxOf, false_implies, true_implies, implies_true, forall_const]
    have s29 := s19.trans s
    refine ⟨_, .inr (SqT.of (s _ _ eb9)), fun v hv => ?_⟩
    have sv := Same.new (o := HO.lst (ps.map V.ref)) hv
    have evs : vs = ws := Uni.one uv un2 (.refl _)
    subst evs
    exact eq_cpl upd_same (sv _ _ ed) ((cp9.same s).same sv) (cv.same sv) (fin _ (s29.trans sv))
end
end My
set_option Elab.async false
set_option linter.all false
set_option maxRecDepth 100000
set_option maxHeartbeats 4000000
namespace My
open PySem PySem.Spec PyProof.Rows L2 Gen
section
variable {P : Program} {w : World} {K : PySem.W.Frag} {mg : Str → Option Value} {base : Heap} { cBadPool cBadPeople cBadPerson cBadAmount : Addr}
theorem plain_but {h q : Addr} {H H' : Hp} {x : V} (hd : HandAt H' h q) (b : But h H H') (p : Plain H x) : Plain H' x := by
  cases x with
  | ref a =>
    by_cases e : a = h
    · obtain ⟨_, _, _, _, h1, _⟩ := hd.ex
      rw [e]
      exact .inr (.inl ⟨_, h1⟩)
    · rcases p with ⟨xs, p⟩ | ⟨xs, p⟩ | ⟨xs, p⟩
      · exact .inl ⟨xs, b _ _ p e⟩
      · exact .inr (.inl ⟨xs, b _ _ p e⟩)
      · exact .inr (.inr ⟨xs, b _ _ p e⟩)
  | _ => exact p
theorem plain_row' {H : Hp} {a : Addr} {xs : List V} (r : Row H a xs) : Plain H (.ref a) := r.elim (fun h => .inl ⟨_, h⟩) fun h => .inr (.inl ⟨_, h⟩)
theorem arg_row {H : Hp} {a : Addr} {xs : List V} (r : Row H a xs) (h : ∀ y, y ∈ xs → Plain H y) : Arg H (.ref a) := ⟨plain_row' r, fun b ys e r2 y hy => by
  cases e
  rw [← Row.one r r2] at hy
  exact h y hy⟩
theorem few_row {H : Hp} {a : Addr} {xs : List V} (r : Row H a xs) (h : 12 < xs.length) : ¬ FewRow H (.ref a) := fun ⟨b, ys, e, r2, l⟩ => by
  cases e
  rw [← Row.one r r2] at l
  omega
theorem arg_no {H : Hp} {x : V} (hp : Plain H x) (n : ∀ a, x ≠ .ref a) : Arg H x ∧ ¬ FewRow H x := ⟨⟨hp, fun a _ e => absurd e (n a)⟩, fun ⟨a, _, e, _⟩ => n a e⟩
theorem arg_dk {H : Hp} {a : Addr} {kvs : List (Key × V)} (h : H a = some (.dK kvs)) : Arg H (.ref a) ∧ ¬ FewRow H (.ref a) := by
  have no : ∀ b xs, V.ref a = .ref b → ¬ Row H b xs := fun b xs e r => by
    cases e
    rcases r with r | r <;> (rw [h] at r; cases r)
  exact ⟨⟨.inr (.inr ⟨_, h⟩), fun b xs e r => absurd r (no b xs e)⟩, fun ⟨b, xs, e, r, _⟩ => no b xs e r⟩
theorem plain_upd {H : Hp} {x : V} {l : Addr} {o : HO} (hp : Plain H x) (n : x ≠ .ref l) : Plain (upd H l o) x := by
  cases x with
  | ref a =>
    have na : a ≠ l := fun z => n (by rw [z])
    rcases hp with ⟨xs, h⟩ | ⟨xs, h⟩ | ⟨xs, h⟩
    · exact .inl ⟨xs, by rw [upd_ne na]; exact h⟩
    · exact .inr (.inl ⟨xs, by rw [upd_ne na]; exact h⟩)
    · exact .inr (.inr ⟨xs, by rw [upd_ne na]; exact h⟩)
  | _ => exact hp
theorem plain_off {H : Hp} {x : V} {l : Addr} (hp : Plain H x) (f : H l = none) : x ≠ .ref l := fun e => by
  subst e
  rcases hp with ⟨xs, h⟩ | ⟨xs, h⟩ | ⟨xs, h⟩ <;> (rw [f] at h; cases h)
theorem rep_flat {x : V} : ∀ k : Nat, (List.replicate k [x]).flatten = List.replicate k x
  | 0 => rfl
  | k + 1 => by rw [List.replicate_succ, List.replicate_succ, List.flatten_cons, rep_flat k]; rfl
theorem shaped_is (n : Int) (u : Str) (h : u = "coin" ∨ u = "many") : SeqAt.shaped (.tuple [.int n, .str u]) = true := by
  rcases h with rfl | rfl <;> simp [SeqAt.shaped, PyData.canLay0, PyData.canLayAll0, PyData.depth, PyData.depthAll] <;> decide +kernel
theorem ne_is {H : Hp} {a b : Addr} {n : Int} {u : Str} {Q : VK} (ha : H a = some (.tup [.int n, .str u])) (hb : H b = some (.tup [.int n, .str u])) (h : u = "coin" ∨ u = "many") (q : Q (.bl false) H) : rNeD K (.ref a) (.ref b) H Q := by
  refine ⟨.tuple [.int n, .str u], .tuple [.int n, .str u], .tup (SqT.of ha) (.cons (.int _) (.cons (.str _) .nil)), .tup (SqT.of hb) (.cons (.int _) (.cons (.str _) .nil)), shaped_is n u h, shaped_is n u h, ?_⟩
  have e : PyData.eqv (.tuple [.int n, .str u]) (.tuple [.int n, .str u]) = true := by simp [PyData.eqv, PyData.eqvAll]
  rw [e]
  exact q
theorem ne_s1 {H : Hp} {a b : Addr} {u : Str} {Q : VK} (ha : H a = some (.tup [.str u])) (hb : H b = some (.tup [.str u])) (sx : SeqAt.shaped (.tuple [.str u]) = true) (q : Q (.bl false) H) : rNeD K (.ref a) (.ref b) H Q := by
  refine ⟨.tuple [.str u], .tuple [.str u], .tup (SqT.of ha) (.cons (.str _) .nil), .tup (SqT.of hb) (.cons (.str _) .nil), sx, sx, ?_⟩
  have e : PyData.eqv (.tuple [.str u]) (.tuple [.str u]) = true := by simp [PyData.eqv, PyData.eqvAll]
  rw [e]
  exact q
/-- (0, "many") for what is no row of at most twelve -/
theorem ref_many {H : Hp} {x : V} {t : Int} {Q : VK} {E : XK} (t0 : 0 ≤ t) (t1 : t < 3) (a : Arg H x ∧ ¬ FewRow H x) (k : ∀ H' p, Same H H' → H' p = some (.tup [.int 0, .str "many"]) → Q (.ref p) H') : sp_l_refused K [x, .int t] H Q E := ⟨x, t, rfl, t0, t1, a.1, .inl ⟨a.2, k⟩⟩
theorem ppl_no {H : Hp} {x : V} {lo : Int} {Q : VK} {E : XK} (p : Plain H x) (w0 : whole x lo 5 = false) (k : ∀ H', Same H H' → Q (.str "refused") H') : sp_l_people K [x, .int lo] H Q E := ⟨x, lo, rfl, p, fun w1 => absurd (w0.symm.trans w1) (by decide), fun _ => k⟩
theorem prs_no {H : Hp} {x : V} {p : Int} {Q : VK} {E : XK} (hp : Plain H x) (w0 : whole x 0 (p - 1) = false) (k : ∀ H', Same H H' → Q (.str "refused") H') : sp_l_person K [.int p, x] H Q E := ⟨x, p, rfl, hp, fun w1 => absurd (w0.symm.trans w1) (by decide), fun _ => k⟩
theorem amt_no {H : Hp} {x : V} {lo : Int} {Q : VK} {E : XK} (p : Plain H x) (w0 : whole x lo 12000000000 = false) (k : ∀ H', Same H H' → Q (.str "refused") H') : sp_l_amount K [x, .int lo] H Q E := ⟨x, lo, rfl, p, fun w1 => absurd (w0.symm.trans w1) (by decide), fun _ => k⟩
def sp_l_numbers (_ : PySem.W.Frag) : Sp := fun vs H Q _ => ∃ (h q : Addr), vs = [.ref h] ∧ HandAt H h q ∧ ∀ H', Q (.bl true) H'
theorem len_l_numbers {vs H Q E} (h : sp_l_numbers K vs H Q E) : vs.length = 1 := by
  obtain ⟨_, _, rfl, _⟩ := h; rfl
theorem ok_l_numbers {f : Addr} {fd : FuncData} (F : Fun K "_law_numbers" "_law_numbers" s_l_numbers f fd) (T : Txt K mg cBadPool cBadPeople cBadPerson cBadAmount) : FnOk P w K mg base CX0 5 f fd ps_l_numbers (sp_l_numbers K) := by
  obtain ⟨f_l_odd, fd_l_odd, F_l_odd, m_l_odd, b_l_odd⟩ := T.d_l_odd
  have G_l_odd : FnOk P w K mg base CX0 4 f_l_odd fd_l_odd ps_l_odd (sp_l_odd K) := ok_l_odd F_l_odd T
  obtain ⟨f_l_draw, fd_l_draw, F_l_draw, m_l_draw, b_l_draw⟩ := T.d_l_draw
  have G_l_draw : FnOk P w K mg base CX0 2 f_l_draw fd_l_draw ps_l_draw (sp_l_draw K) := ok_l_draw F_l_draw T
  obtain ⟨f_l_big, fd_l_big, F_l_big, m_l_big, b_l_big⟩ := T.d_l_big
  have G_l_big : FnOk P w K mg base CX0 3 f_l_big fd_l_big ps_l_big (sp_l_big K) := ok_l_big F_l_big T
  obtain ⟨f_l_people, fd_l_people, F_l_people, m_l_people, b_l_people⟩ := T.d_l_people
  have G_l_people : FnOk P w K mg base CX0 4 f_l_people fd_l_people ps_l_people (sp_l_people K) := ok_l_people F_l_people T
  obtain ⟨f_check_people, fd_check_people, F_check_people, m_check_people, b_check_people, ds_check_people, d_check_people_1, b_check_people_1⟩ := T.d_check_people
  have G_check_people : FnOk P w K mg base (L2.CX P w) 3 f_check_people fd_check_people ps_check_people (sp_check_people K cBadPeople) := ok_check_people F_check_people T
  obtain ⟨f_l_person, fd_l_person, F_l_person, m_l_person, b_l_person⟩ := T.d_l_person
  have G_l_person : FnOk P w K mg base CX0 4 f_l_person fd_l_person ps_l_person (sp_l_person K) := ok_l_person F_l_person T
  obtain ⟨f_l_amount, fd_l_amount, F_l_amount, m_l_amount, b_l_amount⟩ := T.d_l_amount
  have G_l_amount : FnOk P w K mg base CX0 4 f_l_amount fd_l_amount ps_l_amount (sp_l_amount K) := ok_l_amount F_l_amount T
  obtain ⟨f_check_amount, fd_check_amount, F_check_amount, m_check_amount, b_check_amount, ds_check_amount, d_check_amount_1, b_check_amount_1⟩ := T.d_check_amount
  have G_check_amount : FnOk P w K mg base (L2.CX P w) 3 f_check_amount fd_check_amount ps_check_amount (sp_check_amount K cBadAmount) := ok_check_amount F_check_amount T
  refine F.ok (k := 4) sc_l_numbers (fun vs H Q E h => len_l_numbers h) (fun cdv A outer s H vs Q E hr h => ?_)
  refine ⟨_, (pss_cons (ps_set (i := 1) sc_l_numbers.nd rfl (Or.inl rfl) (pe_call G_l_odd (hr.mono (by decide)) (by rfl) m_l_odd F_l_odd.kp b_l_odd .nil pass0 (pa_cons (pv 0) pa_nil)))
      (pss_cons (ps_for PassesOwn.never rfl (pi_range2 (by rfl) T.n_range (pa_cons pe_int (pa_cons pe_int pa_nil))) (pg_name (i := 2) sc_l_numbers.nd rfl (Or.inl rfl))
      (pss_cons (ps_for PassesOwn.never rfl (pi_range2 (by rfl) T.n_range (pa_cons pe_int (pa_cons pe_int pa_nil))) (pg_name (i := 3) sc_l_numbers.nd rfl (Or.inl rfl))
      (pss_cons (ps_set (i := 4) sc_l_numbers.nd rfl (Or.inl rfl) (pe_ifExp (pt_chain op_le op_le (pv 2) (pv 3) pe_int) (pv 3) pe_str))
      (pss_one (ps_if (pt_cmpR op_ne (pe_call G_l_people (hr.mono (by decide)) (by rfl) m_l_people F_l_people.kp b_l_people .nil pass0 (pa_cons (pv 3) (pa_cons (pv 2) pa_nil))) (pv 4) (nomark _)) (pss_one (ps_ret pe_bl)) pss_nil))))
      (pss_one (ps_if (pt_cmpR op_ne (pe_call G_l_people (hr.mono (by decide)) (by rfl) m_l_people F_l_people.kp b_l_people .nil pass0 (pa_cons (pv 1) (pa_cons (pv 2) pa_nil))) pe_str (nomark _)) (pss_one (ps_ret pe_bl)) pss_nil))))
      (pss_cons (ps_if (PW.pt (pw_or (pt_cmpR op_ne (pe_call G_check_people (hr.mono (by decide)) (by rfl) m_check_people F_check_people.kp b_check_people_1 d_check_people_1 passL (pa_cons pe_int pa_nil)) pe_int (nomark _)) (pw_or (pt_cmpR op_ne (pe_call G_check_people (hr.mono (by decide)) (by rfl) m_check_people F_check_people.kp b_check_people_1 d_check_people_1 passL (pa_cons pe_int pa_nil)) pe_int (nomark _)) (pw_or1 (pt_cmpR op_ne (pe_call G_l_people (hr.mono (by decide)) (by rfl) m_l_people F_l_people.kp b_l_people .nil pass0 (pa_cons pe_bl (pa_cons pe_int pa_nil))) pe_str (nomark _)))))) (pss_one (ps_ret pe_bl)) pss_nil)
      (pss_cons (ps_set (i := 5) sc_l_numbers.nd rfl (Or.inl rfl) (pe_op op_add pe_int (pe_call G_l_draw (hr.mono (by decide)) (by rfl) m_l_draw F_l_draw.kp b_l_draw .nil pass0 (pa_cons (pv 0) (pa_cons pe_int pa_nil)))))
      (pss_cons (ps_for PassesOwn.never rfl (pi_range2 (by rfl) T.n_range (pa_cons (pe_un un_neg pe_int) (pa_cons pe_int pa_nil))) (pg_name (i := 6) sc_l_numbers.nd rfl (Or.inl rfl))
      (pss_cons (ps_set (i := 4) sc_l_numbers.nd rfl (Or.inl rfl) (pe_ifExp (pt_chain op_le op_lt pe_int (pv 6) (pv 5)) (pv 6) pe_str))
      (pss_one (ps_if (pt_cmpR op_ne (pe_call G_l_person (hr.mono (by decide)) (by rfl) m_l_person F_l_person.kp b_l_person .nil pass0 (pa_cons (pv 5) (pa_cons (pv 6) pa_nil))) (pv 4) (nomark _)) (pss_one (ps_ret pe_bl)) pss_nil))))
      (pss_cons (ps_if (PW.pt (pw_or (pt_cmpR op_ne (pe_call G_l_person (hr.mono (by decide)) (by rfl) m_l_person F_l_person.kp b_l_person .nil pass0 (pa_cons (pv 5) (pa_cons (pv 1) pa_nil))) pe_str (nomark _)) (pw_or (pt_cmpR op_ne (pe_call G_l_person (hr.mono (by decide)) (by rfl) m_l_person F_l_person.kp b_l_person .nil pass0 (pa_cons pe_int (pa_cons pe_bl pa_nil))) pe_str (nomark _)) (pw_or1 (pt_cmpR op_ne (pe_call G_l_person (hr.mono (by decide)) (by rfl) m_l_person F_l_person.kp b_l_person .nil pass0 (pa_cons pe_int (pa_cons pe_bl pa_nil))) pe_str (nomark _)))))) (pss_one (ps_ret pe_bl)) pss_nil)
      (pss_cons (ps_set (i := 2) sc_l_numbers.nd rfl (Or.inl rfl) (pe_call G_l_draw (hr.mono (by decide)) (by rfl) m_l_draw F_l_draw.kp b_l_draw .nil pass0 (pa_cons (pv 0) (pa_cons pe_int pa_nil))))
      (pss_cons (ps_set (i := 7) sc_l_numbers.nd rfl (Or.inl rfl) (pe_call G_l_big (hr.mono (by decide)) (by rfl) m_l_big F_l_big.kp b_l_big .nil pass0 (pa_cons (pv 0) (pa_cons (pe_op op_add (pe_op op_mul pe_int (pe_op op_pow pe_int pe_int)) pe_int) pa_nil))))
      (pss_cons (ps_if (PW.pt (pw_or (pt_cmpR op_ne (pe_call G_l_amount (hr.mono (by decide)) (by rfl) m_l_amount F_l_amount.kp b_l_amount .nil pass0 (pa_cons (pv 7) (pa_cons (pv 2) pa_nil))) (pe_ifExp (pt_cmpR op_ge (pv 7) (pv 2) (nomark _)) (pv 7) pe_str) (nomark _)) (pw_or1 (pt_cmpR op_ne (pe_call G_check_amount (hr.mono (by decide)) (by rfl) m_check_amount F_check_amount.kp b_check_amount_1 d_check_amount_1 passL (pa_cons (pv 7) pa_nil)) (pv 7) (nomark _))))) (pss_one (ps_ret pe_bl)) pss_nil)
      (pss_cons (ps_if (PW.pt (pw_or (pt_cmpR op_ne (pe_call G_check_amount (hr.mono (by decide)) (by rfl) m_check_amount F_check_amount.kp b_check_amount_1 d_check_amount_1 passL (pa_cons pe_int pa_nil)) pe_int (nomark _)) (pw_or (pt_cmpR op_ne (pe_call G_l_amount (hr.mono (by decide)) (by rfl) m_l_amount F_l_amount.kp b_l_amount .nil pass0 (pa_cons pe_int (pa_cons pe_int pa_nil))) pe_str (nomark _)) (pw_or1 (pt_cmpR op_ne (pe_call G_l_amount (hr.mono (by decide)) (by rfl) m_l_amount F_l_amount.kp b_l_amount .nil pass0 (pa_cons (pe_op op_mul pe_int (pe_op op_pow pe_int pe_int)) (pa_cons (pv 2) pa_nil))) (pe_op op_mul pe_int (pe_op op_pow pe_int pe_int)) (nomark _)))))) (pss_one (ps_ret pe_bl)) pss_nil)
      (pss_one (ps_ret (pe_and (pe_cmpR op_eq (pe_call G_l_amount (hr.mono (by decide)) (by rfl) m_l_amount F_l_amount.kp b_l_amount .nil pass0 (pa_cons (pv 1) (pa_cons (pv 2) pa_nil))) pe_str (nomark _)) (pe_one (pe_cmpR op_eq (pe_call G_l_amount (hr.mono (by decide)) (by rfl) m_l_amount F_l_amount.kp b_l_amount .nil pass0 (pa_cons (pv 1) (pa_cons pe_int pa_nil))) pe_str (nomark _)))))))))))))))), ?_⟩
  obtain ⟨h, q, rfl, hh, k⟩ := h
  have e9 : (10 : Int) ^ Int.toNat 9 = 1000000000 := by decide
  refine tSeq_cut fun R eR => ?_
  simp only [tSeq, tAsg, tDrop, tRet, tRetN, tIfS, tNext, tTest, tB, tNot, tAnd, tOr, tChain, tIf, tAndV, tOrV, tNotV, tOp, tUn, tCB, tCons, tNil, tVar, tC, tCall, tCallS, gName, rI, rI0, rU, rEq, rNe, tTup, tLst, gSub, rSetL, rIxL, rIxT, L2.start, List.map_cons, List.map_nil, List.length_cons, List.length_nil, Nat.reduceAdd, Nat.reduceSub, List.replicate_succ, List.replicate_zero, List.getElem?_cons_zero, List.getElem?_cons_succ, List.set_cons_zero, List.set_cons_succ, Option.some.injEq, exists_eq_left', exists_eq_left, exists_and_left, V.int.injEq, V.bl.injEq, V.ref.injEq, V.str.injEq, List.cons.injEq, and_true, true_and, List.nil_append, List.cons_append, List.append_nil, reduceCtorEq, false_and, exists_false, or_false, false_or, and_false, Int.reduceNeg, decide_eq_true_eq, Bool.not_eq_true', decide_eq_false_iff_not, and_assoc, tYes, ↓reduceIte, wipe, Bool.false_eq_true, Bool.true_eq_false, cxOf, false_implies, true_implies, implies_true, forall_const]
  refine ⟨h, q, rfl, hh, fun x H1 px wx fx hh1 b1 => ?_⟩
  subst eR
  refine tSeq_cut fun R eR => ?_
  refine ⟨_, _, rfl, by decide, for_range (lo := 1) (n := 5) (fun i z H' => ∃ v2 v3 v4 : Option V, z = [some (.ref h), some x, v2, v3, v4, none, none, none] ∧ Same H1 H') ⟨none, none, none, rfl, Same.refl H1⟩ ?_ ?_⟩
  · rintro i z H' hi ⟨v2, v3, v4, rfl, s⟩
    show tSeq _ _ _ _ _
    refine tSeq_cut fun R2 eR2 => ?_
    refine ⟨_, _, rfl, by decide, for_range (lo := 0) (n := 7) (fun j z H' => ∃ v3 v4 : Option V, z = [some (.ref h), some x, some (.int (1 + (i : Nat))), v3, v4, none, none, none] ∧ Same H1 H') ⟨v3, v4, rfl, s⟩ ?_ ?_⟩
    · rintro j z H' hj ⟨v3, v4, rfl, s⟩
      simp only [tSeq, tAsg, tDrop, tRet, tRetN, tIfS, tNext, tTest, tB, tNot, tAnd, tOr, tChain, tIf, tAndV, tOrV, tNotV, tOp, tUn, tCB, tCons, tNil, tVar, tC, tCall, tCallS, gName, rI, rI0, rU, rEq, rNe, tTup, tLst, gSub, rSetL, rIxL, rIxT, L2.start, List.map_cons, List.map_nil, List.length_cons, List.length_nil, Nat.reduceAdd, Nat.reduceSub, List.replicate_succ, List.replicate_zero, List.getElem?_cons_zero, List.getElem?_cons_succ, List.set_cons_zero, List.set_cons_succ, Option.some.injEq, exists_eq_left', exists_eq_left, exists_and_left, V.int.injEq, V.bl.injEq, V.ref.injEq, V.str.injEq, List.cons.injEq, and_true, true_and, List.nil_append, List.cons_append, List.append_nil, reduceCtorEq, false_and, exists_false, or_false, false_or, and_false, Int.reduceNeg, decide_eq_true_eq, Bool.not_eq_true', decide_eq_false_iff_not, and_assoc, tYes, ↓reduceIte, wipe, Bool.false_eq_true, Bool.true_eq_false, cxOf, false_implies, true_implies, implies_true, forall_const]
      have no : whole (.int (0 + (j : Nat))) (1 + (i : Nat)) 5 = false → sp_l_people K [V.int (0 + (j : Nat)), V.int (1 + (i : Nat))] H' (fun x H1_1 => scal x (V.str (Str.ofString "refused")) = true ∧ if ¬x = V.str (Str.ofString "refused") then Q (V.bl false) H1_1 else Same H1 H1_1) E0 := fun w =>
        ppl_no True.intro w fun H'' s'' => ⟨rfl, by rw [if_neg (fun z => z rfl)]; exact s.trans s''⟩
      split
      · split
        · refine ⟨_, _, rfl, True.intro, fun _ => ⟨rfl, ?_⟩, fun w => ?_⟩
          · rw [if_neg (fun z => z rfl)]
            exact s
          · exact absurd ((whole_int (by assumption) (by assumption)).symm.trans w) (by decide)
        · exact no (whole_no (.inr (by omega)))
      · exact no (whole_no (.inl (by omega)))
    · rintro z H' ⟨v3, v4, rfl, s⟩
      show R2 _ _ _
      subst eR2
      simp only [tSeq, tAsg, tDrop, tRet, tRetN, tIfS, tNext, tTest, tB, tNot, tAnd, tOr, tChain, tIf, tAndV, tOrV, tNotV, tOp, tUn, tCB, tCons, tNil, tVar, tC, tCall, tCallS, gName, rI, rI0, rU, rEq, rNe, tTup, tLst, gSub, rSetL, rIxL, rIxT, L2.start, List.map_cons, List.map_nil, List.length_cons, List.length_nil, Nat.reduceAdd, Nat.reduceSub, List.replicate_succ, List.replicate_zero, List.getElem?_cons_zero, List.getElem?_cons_succ, List.set_cons_zero, List.set_cons_succ, Option.some.injEq, exists_eq_left', exists_eq_left, exists_and_left, V.int.injEq, V.bl.injEq, V.ref.injEq, V.str.injEq, List.cons.injEq, and_true, true_and, List.nil_append, List.cons_append, List.append_nil, reduceCtorEq, false_and, exists_false, or_false, false_or, and_false, Int.reduceNeg, decide_eq_true_eq, Bool.not_eq_true', decide_eq_false_iff_not, and_assoc, tYes, ↓reduceIte, wipe, Bool.false_eq_true, Bool.true_eq_false, cxOf, false_implies, true_implies, implies_true, forall_const]
      refine ppl_no (px.same s) (wx _ _ (by omega) (by decide)) fun H'' s'' => ⟨rfl, ?_⟩
      rw [if_neg (fun z => z rfl)]
      exact s.trans s''
  rintro z H2 ⟨v2, v3, v4, rfl, s2⟩
  have px2 := px.same s2
  have hh2 := hh1.same s2
  show R _ _ _
  subst eR
  refine tSeq_cut fun R eR => ?_
  simp only [tSeq, tAsg, tDrop, tRet, tRetN, tIfS, tNext, tTest, tB, tNot, tAnd, tOr, tChain, tIf, tAndV, tOrV, tNotV, tOp, tUn, tCB, tCons, tNil, tVar, tC, tCall, tCallS, gName, rI, rI0, rU, rEq, rNe, tTup, tLst, gSub, rSetL, rIxL, rIxT, L2.start, List.map_cons, List.map_nil, List.length_cons, List.length_nil, Nat.reduceAdd, Nat.reduceSub, List.replicate_succ, List.replicate_zero, List.getElem?_cons_zero, List.getElem?_cons_succ, List.set_cons_zero, List.set_cons_succ, Option.some.injEq, exists_eq_left', exists_eq_left, exists_and_left, V.int.injEq, V.bl.injEq, V.ref.injEq, V.str.injEq, List.cons.injEq, and_true, true_and, List.nil_append, List.cons_append, List.append_nil, reduceCtorEq, false_and, exists_false, or_false, false_or, and_false, Int.reduceNeg, decide_eq_true_eq, Bool.not_eq_true', decide_eq_false_iff_not, and_assoc, tYes, ↓reduceIte, wipe, Bool.false_eq_true, Bool.true_eq_false, cxOf, false_implies, true_implies, implies_true, forall_const]
  refine ⟨_, _, rfl, True.intro, fun _ => ⟨rfl, ?_⟩, fun w => absurd w (by decide)⟩
  rw [if_neg (fun z => z rfl)]
  refine ⟨_, _, rfl, True.intro, fun _ => ⟨rfl, ?_⟩, fun w => absurd w (by decide)⟩
  rw [if_neg (fun z => z rfl)]
  refine ppl_no True.intro rfl fun H3 s3 => ⟨rfl, ?_⟩
  rw [if_neg (fun z => z rfl)]
  have px3 := px2.same s3
  have hh3 := hh2.same s3
  subst eR
  refine tSeq_cut fun R eR => ?_
  simp only [tSeq, tAsg, tDrop, tRet, tRetN, tIfS, tNext, tTest, tB, tNot, tAnd, tOr, tChain, tIf, tAndV, tOrV, tNotV, tOp, tUn, tCB, tCons, tNil, tVar, tC, tCall, tCallS, gName, rI, rI0, rU, rEq, rNe, tTup, tLst, gSub, rSetL, rIxL, rIxT, L2.start, List.map_cons, List.map_nil, List.length_cons, List.length_nil, Nat.reduceAdd, Nat.reduceSub, List.replicate_succ, List.replicate_zero, List.getElem?_cons_zero, List.getElem?_cons_succ, List.set_cons_zero, List.set_cons_succ, Option.some.injEq, exists_eq_left', exists_eq_left, exists_and_left, V.int.injEq, V.bl.injEq, V.ref.injEq, V.str.injEq, List.cons.injEq, and_true, true_and, List.nil_append, List.cons_append, List.append_nil, reduceCtorEq, false_and, exists_false, or_false, false_or, and_false, Int.reduceNeg, decide_eq_true_eq, Bool.not_eq_true', decide_eq_false_iff_not, and_assoc, tYes, ↓reduceIte, wipe, Bool.false_eq_true, Bool.true_eq_false, cxOf, false_implies, true_implies, implies_true, forall_const, spDraw]
  refine ⟨q, hh3, by decide, by decide, fun d H4 d0 d1 hh4 b4 => ?_⟩
  have px4 := plain_but hh4 b4 px3
  subst eR
  refine tSeq_cut fun R eR => ?_
  refine ⟨_, rfl, _, _, rfl, by decide, for_range (lo := -1) (n := 8) (fun j z H' => ∃ v2 v3 v4 v6 : Option V, z = [some (.ref h), some x, v2, v3, v4, some (.int (1 + d)), v6, none] ∧ Same H4 H') ⟨v2, v3, v4, none, rfl, Same.refl H4⟩ ?_ ?_⟩
  · rintro j z H' hj ⟨v2, v3, v4, v6, rfl, s⟩
    simp only [tSeq, tAsg, tDrop, tRet, tRetN, tIfS, tNext, tTest, tB, tNot, tAnd, tOr, tChain, tIf, tAndV, tOrV, tNotV, tOp, tUn, tCB, tCons, tNil, tVar, tC, tCall, tCallS, gName, rI, rI0, rU, rEq, rNe, tTup, tLst, gSub, rSetL, rIxL, rIxT, L2.start, List.map_cons, List.map_nil, List.length_cons, List.length_nil, Nat.reduceAdd, Nat.reduceSub, List.replicate_succ, List.replicate_zero, List.getElem?_cons_zero, List.getElem?_cons_succ, List.set_cons_zero, List.set_cons_succ, Option.some.injEq, exists_eq_left', exists_eq_left, exists_and_left, V.int.injEq, V.bl.injEq, V.ref.injEq, V.str.injEq, List.cons.injEq, and_true, true_and, List.nil_append, List.cons_append, List.append_nil, reduceCtorEq, false_and, exists_false, or_false, false_or, and_false, Int.reduceNeg, decide_eq_true_eq, Bool.not_eq_true', decide_eq_false_iff_not, and_assoc, tYes, ↓reduceIte, wipe, Bool.false_eq_true, Bool.true_eq_false, cxOf, false_implies, true_implies, implies_true, forall_const]
    have no : whole (.int (-1 + (j : Nat))) 0 ((1 + d) - 1) = false → sp_l_person K [V.int (1 + d), V.int (-1 + (j : Nat))] H' (fun x H1 => scal x (V.str (Str.ofString "refused")) = true ∧ if ¬x = V.str (Str.ofString "refused") then Q (V.bl false) H1 else Same H4 H1) E0 := fun w =>
      prs_no True.intro w fun H'' s'' => ⟨rfl, by rw [if_neg (fun z => z rfl)]; exact s.trans s''⟩
    split
    · split
      · refine ⟨_, _, rfl, True.intro, fun _ => ⟨rfl, ?_⟩, fun w => ?_⟩
        · rw [if_neg (fun z => z rfl)]
          exact s
        · exact absurd ((whole_int (by omega) (by omega)).symm.trans w) (by decide)
      · exact no (whole_no (.inr (by omega)))
    · exact no (whole_no (.inl (by omega)))
  rintro z H5 ⟨v2, v3, v4, v6, rfl, s5⟩
  have px5 := px4.same s5
  have hh5 := hh4.same s5
  show R _ _ _
  subst eR
  refine tSeq_cut fun R eR => ?_
  simp only [tSeq, tAsg, tDrop, tRet, tRetN, tIfS, tNext, tTest, tB, tNot, tAnd, tOr, tChain, tIf, tAndV, tOrV, tNotV, tOp, tUn, tCB, tCons, tNil, tVar, tC, tCall, tCallS, gName, rI, rI0, rU, rEq, rNe, tTup, tLst, gSub, rSetL, rIxL, rIxT, L2.start, List.map_cons, List.map_nil, List.length_cons, List.length_nil, Nat.reduceAdd, Nat.reduceSub, List.replicate_succ, List.replicate_zero, List.getElem?_cons_zero, List.getElem?_cons_succ, List.set_cons_zero, List.set_cons_succ, Option.some.injEq, exists_eq_left', exists_eq_left, exists_and_left, V.int.injEq, V.bl.injEq, V.ref.injEq, V.str.injEq, List.cons.injEq, and_true, true_and, List.nil_append, List.cons_append, List.append_nil, reduceCtorEq, false_and, exists_false, or_false, false_or, and_false, Int.reduceNeg, decide_eq_true_eq, Bool.not_eq_true', decide_eq_false_iff_not, and_assoc, tYes, ↓reduceIte, wipe, Bool.false_eq_true, Bool.true_eq_false, cxOf, false_implies, true_implies, implies_true, forall_const]
  refine prs_no px5 (wx _ _ (by decide) (by omega)) fun H6 s6 => ⟨rfl, ?_⟩
  rw [if_neg (fun z => z rfl)]
  refine prs_no True.intro rfl fun H7 s7 => ⟨rfl, ?_⟩
  rw [if_neg (fun z => z rfl)]
  refine prs_no True.intro rfl fun H8 s8 => ⟨rfl, ?_⟩
  rw [if_neg (fun z => z rfl)]
  have s58 := s6.trans (s7.trans s8)
  have px8 := px5.same s58
  have hh8 := hh5.same s58
  clear s58 s6 s7 s8
  subst eR
  refine tSeq_cut fun R eR => ?_
  simp only [tSeq, tAsg, tDrop, tRet, tRetN, tIfS, tNext, tTest, tB, tNot, tAnd, tOr, tChain, tIf, tAndV, tOrV, tNotV, tOp, tUn, tCB, tCons, tNil, tVar, tC, tCall, tCallS, gName, rI, rI0, rU, rEq, rNe, tTup, tLst, gSub, rSetL, rIxL, rIxT, L2.start, List.map_cons, List.map_nil, List.length_cons, List.length_nil, Nat.reduceAdd, Nat.reduceSub, List.replicate_succ, List.replicate_zero, List.getElem?_cons_zero, List.getElem?_cons_succ, List.set_cons_zero, List.set_cons_succ, Option.some.injEq, exists_eq_left', exists_eq_left, exists_and_left, V.int.injEq, V.bl.injEq, V.ref.injEq, V.str.injEq, List.cons.injEq, and_true, true_and, List.nil_append, List.cons_append, List.append_nil, reduceCtorEq, false_and, exists_false, or_false, false_or, and_false, Int.reduceNeg, decide_eq_true_eq, Bool.not_eq_true', decide_eq_false_iff_not, and_assoc, tYes, ↓reduceIte, wipe, Bool.false_eq_true, Bool.true_eq_false, cxOf, false_implies, true_implies, implies_true, forall_const, spDraw]
  refine ⟨q, hh8, by decide, by decide, fun lo H9 l0 l1 hh9 b9 => ?_⟩
  have px9 := plain_but hh9 b9 px8
  subst eR
  refine tSeq_cut fun R eR => ?_
  simp only [tSeq, tAsg, tDrop, tRet, tRetN, tIfS, tNext, tTest, tB, tNot, tAnd, tOr, tChain, tIf, tAndV, tOrV, tNotV, tOp, tUn, tCB, tCons, tNil, tVar, tC, tCall, tCallS, gName, rI, rI0, rU, rEq, rNe, tTup, tLst, gSub, rSetL, rIxL, rIxT, L2.start, List.map_cons, List.map_nil, List.length_cons, List.length_nil, Nat.reduceAdd, Nat.reduceSub, List.replicate_succ, List.replicate_zero, List.getElem?_cons_zero, List.getElem?_cons_succ, List.set_cons_zero, List.set_cons_succ, Option.some.injEq, exists_eq_left', exists_eq_left, exists_and_left, V.int.injEq, V.bl.injEq, V.ref.injEq, V.str.injEq, List.cons.injEq, and_true, true_and, List.nil_append, List.cons_append, List.append_nil, reduceCtorEq, false_and, exists_false, or_false, false_or, and_false, Int.reduceNeg, decide_eq_true_eq, Bool.not_eq_true', decide_eq_false_iff_not, and_assoc, tYes, ↓reduceIte, wipe, Bool.false_eq_true, Bool.true_eq_false, cxOf, false_implies, true_implies, implies_true, forall_const, spDraw, e9]
  refine ⟨⟨by decide, by decide, by decide⟩, cml (by decide) (by decide), q, hh9, by decide, by decide, fun am H10 a0 a1 hh10 b10 => ?_⟩
  have px10 := plain_but hh10 b10 px9
  subst eR
  refine tSeq_cut fun R eR => ?_
  simp only [tSeq, tAsg, tDrop, tRet, tRetN, tIfS, tNext, tTest, tB, tNot, tAnd, tOr, tChain, tIf, tAndV, tOrV, tNotV, tOp, tUn, tCB, tCons, tNil, tVar, tC, tCall, tCallS, gName, rI, rI0, rU, rEq, rNe, tTup, tLst, gSub, rSetL, rIxL, rIxT, L2.start, List.map_cons, List.map_nil, List.length_cons, List.length_nil, Nat.reduceAdd, Nat.reduceSub, List.replicate_succ, List.replicate_zero, List.getElem?_cons_zero, List.getElem?_cons_succ, List.set_cons_zero, List.set_cons_succ, Option.some.injEq, exists_eq_left', exists_eq_left, exists_and_left, V.int.injEq, V.bl.injEq, V.ref.injEq, V.str.injEq, List.cons.injEq, and_true, true_and, List.nil_append, List.cons_append, List.append_nil, reduceCtorEq, false_and, exists_false, or_false, false_or, and_false, Int.reduceNeg, decide_eq_true_eq, Bool.not_eq_true', decide_eq_false_iff_not, and_assoc, tYes, ↓reduceIte, wipe, Bool.false_eq_true, Bool.true_eq_false, cxOf, false_implies, true_implies, implies_true, forall_const]
  suffices cont : ∀ Hx, Plain Hx x → R { nx := fun x H' => Q V.non H', rt := Q } [some (V.ref h), some x, some (V.int lo), v3, v4, some (V.int (1 + d)), v6, some (V.int am)] Hx by
    have chk : ∀ Hx, Same H10 Hx → sp_check_amount K cBadAmount [V.int am, V.int 0] Hx (fun x_2 H1 => scal x_2 (V.int am) = true ∧ if ¬x_2 = V.int am then Q (V.bl false) H1 else
        R { nx := fun x H' => Q V.non H', rt := Q } [some (V.ref h), some x, some (V.int lo), v3, v4, some (V.int (1 + d)), v6, some (V.int am)] H1) E0 := fun Hx s => by
      refine ⟨_, _, rfl, True.intro, fun _ => ⟨rfl, ?_⟩, fun w => absurd ((whole_int a0 (by omega)).symm.trans w) (by decide)⟩
      rw [if_neg (fun z => z rfl)]
      exact cont Hx (px10.same s)
    by_cases g : lo ≤ am
    · refine ⟨_, _, rfl, True.intro, fun _ => ?_, fun w => absurd ((whole_int g (by omega)).symm.trans w) (by decide)⟩
      show ite _ _ _
      rw [if_pos g]
      refine ⟨rfl, ?_⟩
      rw [if_neg (fun z => z rfl)]
      exact chk H10 (Same.refl H10)
    · refine amt_no True.intro (whole_no (.inl (by omega))) fun H11 s11 => ?_
      show ite _ _ _
      rw [if_neg g]
      refine ⟨rfl, ?_⟩
      rw [if_neg (fun z => z rfl)]
      exact chk H11 s11
  intro H11 px11
  subst eR
  refine tSeq_cut fun R eR => ?_
  simp only [tSeq, tAsg, tDrop, tRet, tRetN, tIfS, tNext, tTest, tB, tNot, tAnd, tOr, tChain, tIf, tAndV, tOrV, tNotV, tOp, tUn, tCB, tCons, tNil, tVar, tC, tCall, tCallS, gName, rI, rI0, rU, rEq, rNe, tTup, tLst, gSub, rSetL, rIxL, rIxT, L2.start, List.map_cons, List.map_nil, List.length_cons, List.length_nil, Nat.reduceAdd, Nat.reduceSub, List.replicate_succ, List.replicate_zero, List.getElem?_cons_zero, List.getElem?_cons_succ, List.set_cons_zero, List.set_cons_succ, Option.some.injEq, exists_eq_left', exists_eq_left, exists_and_left, V.int.injEq, V.bl.injEq, V.ref.injEq, V.str.injEq, List.cons.injEq, and_true, true_and, List.nil_append, List.cons_append, List.append_nil, reduceCtorEq, false_and, exists_false, or_false, false_or, and_false, Int.reduceNeg, decide_eq_true_eq, Bool.not_eq_true', decide_eq_false_iff_not, and_assoc, tYes, ↓reduceIte, wipe, Bool.false_eq_true, Bool.true_eq_false, cxOf, false_implies, true_implies, implies_true, forall_const, e9]
  refine ⟨_, _, rfl, True.intro, fun _ => ⟨rfl, ?_⟩, fun w => absurd w (by decide)⟩
  rw [if_neg (fun z => z rfl)]
  refine amt_no True.intro (whole_no (.inl (by decide))) fun H12 s12 => ⟨rfl, ?_⟩
  rw [if_neg (fun z => z rfl)]
  refine ⟨⟨by decide, by decide, by decide⟩, cml (by decide) (by decide), _, _, rfl, True.intro, fun _ => ⟨⟨by decide, by decide, by decide⟩, cml (by decide) (by decide), rfl, ?_⟩, fun w => absurd ((whole_int (by omega) (by decide)).symm.trans w) (by decide)⟩
  rw [if_neg (fun z => z rfl)]
  have px12 := px11.same s12
  subst eR
  simp only [tSeq, tAsg, tDrop, tRet, tRetN, tIfS, tNext, tTest, tB, tNot, tAnd, tOr, tChain, tIf, tAndV, tOrV, tNotV, tOp, tUn, tCB, tCons, tNil, tVar, tC, tCall, tCallS, gName, rI, rI0, rU, rEq, rNe, tTup, tLst, gSub, rSetL, rIxL, rIxT, L2.start, List.map_cons, List.map_nil, List.length_cons, List.length_nil, Nat.reduceAdd, Nat.reduceSub, List.replicate_succ, List.replicate_zero, List.getElem?_cons_zero, List.getElem?_cons_succ, List.set_cons_zero, List.set_cons_succ, Option.some.injEq, exists_eq_left', exists_eq_left, exists_and_left, V.int.injEq, V.bl.injEq, V.ref.injEq, V.str.injEq, List.cons.injEq, and_true, true_and, List.nil_append, List.cons_append, List.append_nil, reduceCtorEq, false_and, exists_false, or_false, false_or, and_false, Int.reduceNeg, decide_eq_true_eq, Bool.not_eq_true', decide_eq_false_iff_not, and_assoc, tYes, ↓reduceIte, wipe, Bool.false_eq_true, Bool.true_eq_false, cxOf, false_implies, true_implies, implies_true, forall_const]
  refine amt_no px12 (wx _ _ l0 (by decide)) fun H13 s13 => ⟨rfl, ?_⟩
  rw [if_pos rfl]
  exact amt_no (px12.same s13) (wx _ _ (by decide) (by decide)) fun H14 s14 => ⟨rfl, k _⟩
def sp_law (K : PySem.W.Frag) : Sp := fun vs H Q _ => ∃ (a : Addr) (ns : List Int), vs = [.ref a] ∧ SqL K H a (ns.map V.int) ∧ ns.length ≤ 63 ∧ ∀ H', Q (.bl true) H'
theorem len_law {vs H Q E} (h : sp_law K vs H Q E) : vs.length = 1 := by
  obtain ⟨_, _, rfl, _⟩ := h; rfl
theorem ok_law {f : Addr} {fd : FuncData} (F : Fun K "law" "law" s_law f fd) (T : Txt K mg cBadPool cBadPeople cBadPerson cBadAmount) : FnOk P w K mg base CX0 6 f fd ps_law (sp_law K) := by
  obtain ⟨f_l_hand, fd_l_hand, F_l_hand, m_l_hand, b_l_hand⟩ := T.d_l_hand
  have G_l_hand : FnOk P w K mg base CX0 1 f_l_hand fd_l_hand ps_l_hand (sp_l_hand K) := ok_l_hand F_l_hand T
  obtain ⟨f_l_great, fd_l_great, F_l_great, m_l_great, b_l_great⟩ := T.d_l_great
  have G_l_great : FnOk P w K mg base CX0 4 f_l_great fd_l_great ps_l_great (sp_l_great K) := ok_l_great F_l_great T
  obtain ⟨f_l_pool, fd_l_pool, F_l_pool, m_l_pool, b_l_pool⟩ := T.d_l_pool
  have G_l_pool : FnOk P w K mg base CX0 4 f_l_pool fd_l_pool ps_l_pool (sp_l_pool K) := ok_l_pool F_l_pool T
  obtain ⟨f_l_draw, fd_l_draw, F_l_draw, m_l_draw, b_l_draw⟩ := T.d_l_draw
  have G_l_draw : FnOk P w K mg base CX0 2 f_l_draw fd_l_draw ps_l_draw (sp_l_draw K) := ok_l_draw F_l_draw T
  obtain ⟨f_l_odd_coin, fd_l_odd_coin, F_l_odd_coin, m_l_odd_coin, b_l_odd_coin⟩ := T.d_l_odd_coin
  have G_l_odd_coin : FnOk P w K mg base CX0 5 f_l_odd_coin fd_l_odd_coin ps_l_odd_coin (sp_l_odd_coin K) := ok_l_odd_coin F_l_odd_coin T
  obtain ⟨f_l_refused, fd_l_refused, F_l_refused, m_l_refused, b_l_refused⟩ := T.d_l_refused
  have G_l_refused : FnOk P w K mg base CX0 5 f_l_refused fd_l_refused ps_l_refused (sp_l_refused K) := ok_l_refused F_l_refused T
  obtain ⟨f_l_good, fd_l_good, F_l_good, m_l_good, b_l_good⟩ := T.d_l_good
  have G_l_good : FnOk P w K mg base CX0 5 f_l_good fd_l_good ps_l_good (sp_l_good K) := ok_l_good F_l_good T
  obtain ⟨f_l_numbers, fd_l_numbers, F_l_numbers, m_l_numbers, b_l_numbers⟩ := T.d_l_numbers
  have G_l_numbers : FnOk P w K mg base CX0 5 f_l_numbers fd_l_numbers ps_l_numbers (sp_l_numbers K) := ok_l_numbers F_l_numbers T
  obtain ⟨f_l_big, fd_l_big, F_l_big, m_l_big, b_l_big⟩ := T.d_l_big
  have G_l_big : FnOk P w K mg base CX0 3 f_l_big fd_l_big ps_l_big (sp_l_big K) := ok_l_big F_l_big T
  refine F.ok (k := 5) sc_law (fun vs H Q E h => len_law h) (fun cdv A outer s H vs Q E hr h => ?_)
  refine ⟨_, (pss_cons (ps_set (i := 1) sc_law.nd rfl (Or.inr rfl) (pe_call G_l_hand (hr.mono (by decide)) (by rfl) m_l_hand F_l_hand.kp b_l_hand .nil pass0 (pa_cons (pv 0) pa_nil)))
      (pss_cons (ps_set (i := 2) sc_law.nd rfl (Or.inl rfl) (pe_call G_l_great (hr.mono (by decide)) (by rfl) m_l_great F_l_great.kp b_l_great .nil pass0 (pa_cons (pv 1) (pa_cons pe_int pa_nil))))
      (pss_cons (ps_set (i := 3) sc_law.nd rfl (Or.inl rfl) (pe_call G_l_pool (hr.mono (by decide)) (by rfl) m_l_pool F_l_pool.kp b_l_pool .nil pass0 (pa_cons (pv 1) (pa_cons pe_int (pa_cons pe_int pa_nil)))))
      (pss_cons (ps_if (PW.pt (pw_or (pt_not (pt_val (pe_call G_l_good (hr.mono (by decide)) (by rfl) m_l_good F_l_good.kp b_l_good .nil pass0 (pa_cons (pv 1) (pa_cons (pv 2) pa_nil))))) (pw_or (pt_not (pt_val (pe_call G_l_good (hr.mono (by decide)) (by rfl) m_l_good F_l_good.kp b_l_good .nil pass0 (pa_cons (pv 1) (pa_cons (pv 3) pa_nil))))) (pw_or1 (pt_not (pt_val (pe_call G_l_good (hr.mono (by decide)) (by rfl) m_l_good F_l_good.kp b_l_good .nil pass0 (pa_cons (pv 1) (pa_cons (pv 2) pa_nil))))))))) (pss_one (ps_ret pe_bl)) pss_nil)
      (pss_cons (ps_set (i := 4) sc_law.nd rfl (Or.inl rfl) (pe_ifExp (pt_cmpR op_eq (pe_call G_l_draw (hr.mono (by decide)) (by rfl) m_l_draw F_l_draw.kp b_l_draw .nil pass0 (pa_cons (pv 1) (pa_cons pe_int pa_nil))) pe_int (nomark _)) (pe_op op_cat (pv 2) (pe_op op_rep (pe_lst (pa_cons pe_int pa_nil)) (pe_op op_sub pe_int (pe_callB call_len_seq (by rfl) T.n_len (by decide +kernel) (pa_cons (pv 2) pa_nil))))) (pe_op op_rep (pe_lst (pa_cons (pe_op op_pow pe_int pe_int) pa_nil)) (pe_op op_add pe_int (pe_call G_l_draw (hr.mono (by decide)) (by rfl) m_l_draw F_l_draw.kp b_l_draw .nil pass0 (pa_cons (pv 1) (pa_cons pe_int pa_nil)))))))
      (pss_cons (ps_set (i := 5) sc_law.nd rfl (Or.inl rfl) (pe_ix ix_tup (pe_tup (pa_cons pe_non (pa_cons pe_str (pa_cons (pe_disp (pps_cons pe_int pe_int pps_nil) rfl rfl (by decide) (by decide)) (pa_cons pe_int (pa_cons pe_bl pa_nil)))))) (pe_call G_l_draw (hr.mono (by decide)) (by rfl) m_l_draw F_l_draw.kp b_l_draw .nil pass0 (pa_cons (pv 1) (pa_cons pe_int pa_nil))) (fun _ _ => rfl)))
      (pss_cons (ps_for PassesOwn.never rfl (pi_range1 (by rfl) T.n_range (pa_cons pe_int pa_nil)) (pg_name (i := 6) sc_law.nd rfl (Or.inl rfl))
      (pss_cons (ps_if (PW.pt (pw_or (pt_cmpR (op_neD hr.units) (pe_call G_l_refused (hr.mono (by decide)) (by rfl) m_l_refused F_l_refused.kp b_l_refused .nil pass0 (pa_cons (pv 4) (pa_cons (pv 6) pa_nil))) (pe_tup (pa_cons pe_int (pa_cons pe_str pa_nil))) (nomark _)) (pw_or1 (pt_cmpR (op_neD hr.units) (pe_call G_l_refused (hr.mono (by decide)) (by rfl) m_l_refused F_l_refused.kp b_l_refused .nil pass0 (pa_cons (pe_callTy call_tuple_of (by rfl) T.n_tuple (by decide +kernel) (pa_cons (pv 4) pa_nil)) (pa_cons (pv 6) pa_nil))) (pe_tup (pa_cons pe_int (pa_cons pe_str pa_nil))) (nomark _))))) (pss_one (ps_ret pe_bl)) pss_nil)
      (pss_one (ps_if (PW.pt (pw_or (pt_cmpR (op_neD hr.units) (pe_call G_l_refused (hr.mono (by decide)) (by rfl) m_l_refused F_l_refused.kp b_l_refused .nil pass0 (pa_cons (pv 5) (pa_cons (pv 6) pa_nil))) (pe_tup (pa_cons pe_int (pa_cons pe_str pa_nil))) (nomark _)) (pw_or1 (pt_cmpR (op_neD hr.units) (pe_call G_l_refused (hr.mono (by decide)) (by rfl) m_l_refused F_l_refused.kp b_l_refused .nil pass0 (pa_cons (pe_op op_rep (pe_lst (pa_cons (pe_op op_pow pe_int pe_int) pa_nil)) pe_int) (pa_cons (pv 6) pa_nil))) (pe_tup (pa_cons pe_str pa_nil)) (nomark _))))) (pss_one (ps_ret pe_bl)) pss_nil))))
      (pss_cons (ps_set (i := 7) sc_law.nd rfl (Or.inl rfl) (pe_op op_add pe_int (pe_call G_l_draw (hr.mono (by decide)) (by rfl) m_l_draw F_l_draw.kp b_l_draw .nil pass0 (pa_cons (pv 1) (pa_cons pe_int pa_nil)))))
      (pss_cons (ps_setLc (i := 8) (own := [("_law_k", 9)]) (g := gName 9) (tt := tYes) rfl sc_law.nd rfl rfl (sw_true rfl rfl rfl (by decide +kernel)) (pi_range1 (by rfl) T.n_range (pa_cons (pv 7) pa_nil)) (blkOk_by (N := nm_law) (sc := defScope s_law) (by decide +kernel)) (fun _ _ _ _ _ => (pg_name (i := 9) sc_law.nd rfl (Or.inl rfl))) (fun _ _ _ _ _ => pts_nil) (fun _ _ _ _ _ => (pe_op op_add pe_int (pe_call G_l_big (hr.mono (by decide)) (by rfl) m_l_big F_l_big.kp b_l_big .nil pass0 (pa_cons (pv 1) (pa_cons (pe_op op_pow pe_int pe_int) pa_nil))))))
      (pss_cons (ps_set (i := 10) sc_law.nd rfl (Or.inl rfl) (pe_call G_l_draw (hr.mono (by decide)) (by rfl) m_l_draw F_l_draw.kp b_l_draw .nil pass0 (pa_cons (pv 1) (pa_cons (pv 7) pa_nil))))
      (pss_cons (ps_set (i := 11) sc_law.nd rfl (Or.inl rfl) (pe_call G_l_draw (hr.mono (by decide)) (by rfl) m_l_draw F_l_draw.kp b_l_draw .nil pass0 (pa_cons (pv 1) (pa_cons (pv 7) pa_nil))))
      (pss_cons (ps_asg (pe_call G_l_odd_coin (hr.mono (by decide)) (by rfl) m_l_odd_coin F_l_odd_coin.kp b_l_odd_coin .nil pass0 (pa_cons (pv 1) pa_nil)) (pg_sub (pv 8) (pv 11) set_list))
      (pss_cons (ps_asg (pe_call G_l_odd_coin (hr.mono (by decide)) (by rfl) m_l_odd_coin F_l_odd_coin.kp b_l_odd_coin .nil pass0 (pa_cons (pv 1) pa_nil)) (pg_sub (pv 8) (pv 10) set_list))
      (pss_cons (ps_set (i := 12) sc_law.nd rfl (Or.inl rfl) (pe_ifExp (pt_cmpR op_eq (pe_call G_l_draw (hr.mono (by decide)) (by rfl) m_l_draw F_l_draw.kp b_l_draw .nil pass0 (pa_cons (pv 1) (pa_cons pe_int pa_nil))) pe_int (nomark _)) (pe_callTy call_tuple_of (by rfl) T.n_tuple (by decide +kernel) (pa_cons (pv 8) pa_nil)) (pv 8)))
      (pss_cons (ps_if (PW.pt (pw_or (pt_cmpR (op_neD hr.units) (pe_call G_l_refused (hr.mono (by decide)) (by rfl) m_l_refused F_l_refused.kp b_l_refused .nil pass0 (pa_cons (pv 12) (pa_cons (pe_call G_l_draw (hr.mono (by decide)) (by rfl) m_l_draw F_l_draw.kp b_l_draw .nil pass0 (pa_cons (pv 1) (pa_cons pe_int pa_nil))) pa_nil))) (pe_tup (pa_cons (pe_callB (call_min2 rfl) (by rfl) T.n_min (by decide +kernel) (pa_cons (pv 10) (pa_cons (pv 11) pa_nil))) (pa_cons pe_str pa_nil))) (nomark _)) (pw_or1 (pt_cmpR (op_neD hr.units) (pe_call G_l_refused (hr.mono (by decide)) (by rfl) m_l_refused F_l_refused.kp b_l_refused .nil pass0 (pa_cons (pv 12) (pa_cons pe_int pa_nil))) (pe_tup (pa_cons (pe_callB (call_min2 rfl) (by rfl) T.n_min (by decide +kernel) (pa_cons (pv 10) (pa_cons (pv 11) pa_nil))) (pa_cons pe_str pa_nil))) (nomark _))))) (pss_one (ps_ret pe_bl)) pss_nil)
      (pss_cons (ps_if (pt_cmpR (op_neD hr.units) (pe_call G_l_refused (hr.mono (by decide)) (by rfl) m_l_refused F_l_refused.kp b_l_refused .nil pass0 (pa_cons (pe_op op_cat (pv 8) (pe_op op_rep (pe_lst (pa_cons pe_int pa_nil)) (pe_op op_sub pe_int (pv 7)))) (pa_cons pe_int pa_nil))) (pe_tup (pa_cons pe_int (pa_cons pe_str pa_nil))) (nomark _)) (pss_one (ps_ret pe_bl)) pss_nil)
      (pss_cons (ps_asg pe_int (pg_sub (pv 8) (pv 11) set_list))
      (pss_cons (ps_asg (pe_op op_pow pe_int pe_int) (pg_sub (pv 8) (pv 10) set_list))
      (pss_one (ps_ret (pe_and (pe_call G_l_good (hr.mono (by decide)) (by rfl) m_l_good F_l_good.kp b_l_good .nil pass0 (pa_cons (pv 1) (pa_cons (pe_callB cr_sortedE (by rfl) T.n_sorted (by decide +kernel) (pa_cons (pv 8) pa_nil)) pa_nil))) (pe_one (pe_call G_l_numbers (hr.mono (by decide)) (by rfl) m_l_numbers F_l_numbers.kp b_l_numbers .nil pass0 (pa_cons (pv 1) pa_nil)))))))))))))))))))))))), ?_⟩
  obtain ⟨a, ns, rfl, hS, hn, k⟩ := h
  have e9 : (10 : Int) ^ Int.toNat 9 = 1000000000 := by decide
  refine tSeq_cut fun R eR => ?_
  simp only [tSeq, tAsg, tDrop, tRet, tRetN, tIfS, tNext, tTest, tB, tNot, tAnd, tOr, tChain, tIf, tAndV, tOrV, tNotV, tOp, tUn, tCB, tCons, tNil, tVar, tC, tCall, tCallS, gName, rI, rI0, rU, rEq, rNe, tTup, tLst, gSub, rSetL, rIxL, rIxT, L2.start, List.map_cons, List.map_nil, List.length_cons, List.length_nil, Nat.reduceAdd, Nat.reduceSub, List.replicate_succ, List.replicate_zero, List.getElem?_cons_zero, List.getElem?_cons_succ, List.set_cons_zero, List.set_cons_succ, Option.some.injEq, exists_eq_left', exists_eq_left, exists_and_left, V.int.injEq, V.bl.injEq, V.ref.injEq, V.str.injEq, List.cons.injEq, and_true, true_and, List.nil_append, List.cons_append, List.append_nil, reduceCtorEq, false_and, exists_false, or_false, false_or, and_false, Int.reduceNeg, decide_eq_true_eq, Bool.not_eq_true', decide_eq_false_iff_not, and_assoc, tYes, ↓reduceIte, wipe, Bool.false_eq_true, Bool.true_eq_false, cxOf, false_implies, true_implies, implies_true, forall_const, spHand]
  refine ⟨ns, hS, hn, fun h q H1 s1 hh1 => ?_⟩
  subst eR
  refine tSeq_cut fun R eR => ?_
  simp only [tSeq, tAsg, tDrop, tRet, tRetN, tIfS, tNext, tTest, tB, tNot, tAnd, tOr, tChain, tIf, tAndV, tOrV, tNotV, tOp, tUn, tCB, tCons, tNil, tVar, tC, tCall, tCallS, gName, rI, rI0, rU, rEq, rNe, tTup, tLst, gSub, rSetL, rIxL, rIxT, L2.start, List.map_cons, List.map_nil, List.length_cons, List.length_nil, Nat.reduceAdd, Nat.reduceSub, List.replicate_succ, List.replicate_zero, List.getElem?_cons_zero, List.getElem?_cons_succ, List.set_cons_zero, List.set_cons_succ, Option.some.injEq, exists_eq_left', exists_eq_left, exists_and_left, V.int.injEq, V.bl.injEq, V.ref.injEq, V.str.injEq, List.cons.injEq, and_true, true_and, List.nil_append, List.cons_append, List.append_nil, reduceCtorEq, false_and, exists_false, or_false, false_or, and_false, Int.reduceNeg, decide_eq_true_eq, Bool.not_eq_true', decide_eq_false_iff_not, and_assoc, tYes, ↓reduceIte, wipe, Bool.false_eq_true, Bool.true_eq_false, cxOf, false_implies, true_implies, implies_true, forall_const]
  refine ⟨h, q, rfl, hh1, fun H2 A As hh2 b2 eA nA lA bA sA => ?_⟩
  have pA : Pl h H2 A As := ⟨eA, nA, lA, bA⟩
  subst eR
  refine tSeq_cut fun R eR => ?_
  simp only [tSeq, tAsg, tDrop, tRet, tRetN, tIfS, tNext, tTest, tB, tNot, tAnd, tOr, tChain, tIf, tAndV, tOrV, tNotV, tOp, tUn, tCB, tCons, tNil, tVar, tC, tCall, tCallS, gName, rI, rI0, rU, rEq, rNe, tTup, tLst, gSub, rSetL, rIxL, rIxT, L2.start, List.map_cons, List.map_nil, List.length_cons, List.length_nil, Nat.reduceAdd, Nat.reduceSub, List.replicate_succ, List.replicate_zero, List.getElem?_cons_zero, List.getElem?_cons_succ, List.set_cons_zero, List.set_cons_succ, Option.some.injEq, exists_eq_left', exists_eq_left, exists_and_left, V.int.injEq, V.bl.injEq, V.ref.injEq, V.str.injEq, List.cons.injEq, and_true, true_and, List.nil_append, List.cons_append, List.append_nil, reduceCtorEq, false_and, exists_false, or_false, false_or, and_false, Int.reduceNeg, decide_eq_true_eq, Bool.not_eq_true', decide_eq_false_iff_not, and_assoc, tYes, ↓reduceIte, wipe, Bool.false_eq_true, Bool.true_eq_false, cxOf, false_implies, true_implies, implies_true, forall_const]
  refine ⟨h, q, rfl, hh2, fun H3 B Bs hh3 b3 eB nB lB bB sB => ?_⟩
  have pB : Pl h H3 B Bs := ⟨eB, nB, lB, bB⟩
  have pA3 := pA.but b3
  subst eR
  refine tSeq_cut fun R eR => ?_
  simp only [tSeq, tAsg, tDrop, tRet, tRetN, tIfS, tNext, tTest, tB, tNot, tAnd, tOr, tChain, tIf, tAndV, tOrV, tNotV, tOp, tUn, tCB, tCons, tNil, tVar, tC, tCall, tCallS, gName, rI, rI0, rU, rEq, rNe, tTup, tLst, gSub, rSetL, rIxL, rIxT, L2.start, List.map_cons, List.map_nil, List.length_cons, List.length_nil, Nat.reduceAdd, Nat.reduceSub, List.replicate_succ, List.replicate_zero, List.getElem?_cons_zero, List.getElem?_cons_succ, List.set_cons_zero, List.set_cons_succ, Option.some.injEq, exists_eq_left', exists_eq_left, exists_and_left, V.int.injEq, V.bl.injEq, V.ref.injEq, V.str.injEq, List.cons.injEq, and_true, true_and, List.nil_append, List.cons_append, List.append_nil, reduceCtorEq, false_and, exists_false, or_false, false_or, and_false, Int.reduceNeg, decide_eq_true_eq, Bool.not_eq_true', decide_eq_false_iff_not, and_assoc, tYes, ↓reduceIte, wipe, Bool.false_eq_true, Bool.true_eq_false, cxOf, false_implies, true_implies, implies_true, forall_const]
  refine ⟨h, q, A, As, rfl, hh3, pA3, sA, fun H4 hh4 b4 => ⟨_, rfl, ?_⟩⟩
  rw [if_neg (fun z => by cases z)]
  refine ⟨h, q, B, Bs, rfl, hh4, pB.but b4, sB, fun H5 hh5 b5 => ⟨_, rfl, ?_⟩⟩
  rw [if_neg (fun z => by cases z)]
  have pA5 := (pA3.but b4).but b5
  refine ⟨h, q, A, As, rfl, hh5, pA5, sA, fun H6 hh6 b6 => ⟨_, rfl, ?_⟩⟩
  rw [if_neg (fun z => by cases z)]
  have pA6 := pA5.but b6
  clear pA5 pA3 pA pB b6 b5 b4 b3 b2 hh5 hh4 hh3 hh2 eA nA lA bA eB nB lB bB sB
  subst eR
  refine tSeq_cut fun R eR => ?_
  simp only [tSeq, tAsg, tDrop, tRet, tRetN, tIfS, tNext, tTest, tB, tNot, tAnd, tOr, tChain, tIf, tAndV, tOrV, tNotV, tOp, tUn, tCB, tCons, tNil, tVar, tC, tCall, tCallS, gName, rI, rI0, rU, rEq, rNe, tTup, tLst, gSub, rSetL, rIxL, rIxT, L2.start, List.map_cons, List.map_nil, List.length_cons, List.length_nil, Nat.reduceAdd, Nat.reduceSub, List.replicate_succ, List.replicate_zero, List.getElem?_cons_zero, List.getElem?_cons_succ, List.set_cons_zero, List.set_cons_succ, Option.some.injEq, exists_eq_left', exists_eq_left, exists_and_left, V.int.injEq, V.bl.injEq, V.ref.injEq, V.str.injEq, List.cons.injEq, and_true, true_and, List.nil_append, List.cons_append, List.append_nil, reduceCtorEq, false_and, exists_false, or_false, false_or, and_false, Int.reduceNeg, decide_eq_true_eq, Bool.not_eq_true', decide_eq_false_iff_not, and_assoc, tYes, ↓reduceIte, wipe, Bool.false_eq_true, Bool.true_eq_false, cxOf, false_implies, true_implies, implies_true, forall_const, spDraw, e9]
  suffices cont : ∀ (Hx : Hp) (L : Addr) (xs : List V), HandAt Hx h q → Pl h Hx A As → Hx L = some (.lst xs) → L ≠ h → 12 < xs.length → xs.length ≤ 60 → (∀ y, y ∈ xs → ∃ n, y = .int n) →
      R { nx := fun x H' => Q V.non H', rt := Q } [some (V.ref a), some (V.ref h), some (V.ref A), some (V.ref B), some (V.ref L), none, none, none, none, none, none, none, none] Hx by
    refine ⟨q, hh6, by decide, by decide, fun d H7 d0 d1 hh7 b7 => ⟨rfl, ?_⟩⟩
    have pA7 := pA6.but b7
    have lA := pA7.len
    split
    · refine ⟨by decide, fun p hp => ⟨_, .inl (SqL.of (pA7.same (Same.new hp)).at_), p, _, [V.int 1], rfl, rfl, upd_same, by rw [List.length_map]; omega, by rw [List.length_map]; omega, by rw [List.length_map]; exact small300 (by show 1 * (13 - (As.length : Int)).toNat ≤ 300; omega), fun u hu => ?_⟩⟩
      have s1 := Same.new (o := HO.lst [V.int 1]) hp
      have s2 := Same.new (o := HO.lst (List.replicate ((13 : Int) - ((As.map V.int).length : Nat)).toNat [V.int 1]).flatten) hu
      have e13 : ((13 : Int) - ((As.map V.int).length : Nat)).toNat = 13 - As.length := by rw [List.length_map]; omega
      refine ⟨A, u, _, _, rfl, rfl, ((pA7.same s1).same s2).at_, upd_same, ?_, fun v hv => ?_⟩
      · rw [rep_flat, List.length_replicate, e13, List.length_map]
        exact small300 (by omega)
      · have s3 := Same.new (o := HO.lst (As.map V.int ++ (List.replicate ((13 : Int) - ((As.map V.int).length : Nat)).toNat [V.int 1]).flatten)) hv
        have s13 := (s1.trans s2).trans s3
        refine cont _ v _ (hh7.same s13) (pA7.same s13) upd_same ((hh7.same (s1.trans s2)).off hv) ?_ ?_ fun y hy => ?_
        · rw [List.length_append, rep_flat, List.length_replicate, e13, List.length_map]
          omega
        · rw [List.length_append, rep_flat, List.length_replicate, e13, List.length_map]
          omega
        · rcases List.mem_append.mp hy with hy | hy
          · obtain ⟨n, _, rfl⟩ := List.mem_map.mp hy
            exact ⟨n, rfl⟩
          · rw [rep_flat] at hy
            exact ⟨1, List.eq_of_mem_replicate hy⟩
    · refine ⟨⟨by decide, by decide, by decide⟩, by decide, fun p hp => ⟨q, hh7.same (Same.new hp), by decide, by decide, fun e H8 e0 e1 hh8 b8 => ?_⟩⟩
      refine ⟨p, 13 + e, _, rfl, rfl, b8 _ _ upd_same (hh7.off hp), by omega, by omega, small300 (by show 1 * (13 + e).toNat ≤ 300; omega), fun u hu => ?_⟩
      have s2 := Same.new (o := HO.lst (List.replicate (13 + e).toNat [V.int 1000000000]).flatten) hu
      refine cont _ u _ (hh8.same s2) (((pA7.same (Same.new hp)).but b8).same s2) upd_same (hh8.off hu) ?_ ?_ fun y hy => ?_
      · rw [rep_flat, List.length_replicate]
        omega
      · rw [rep_flat, List.length_replicate]
        omega
      · rw [rep_flat] at hy
        exact ⟨_, List.eq_of_mem_replicate hy⟩
  clear pA6 hh6 H6
  intro H6 L xs hh6 pA6 eL nL lx ly ix
  subst eR
  refine tSeq_cut fun R eR => ?_
  simp only [tSeq, tAsg, tDrop, tRet, tRetN, tIfS, tNext, tTest, tB, tNot, tAnd, tOr, tChain, tIf, tAndV, tOrV, tNotV, tOp, tUn, tCB, tCons, tNil, tVar, tC, tCall, tCallS, gName, rI, rI0, rU, rEq, rNe, tTup, tLst, gSub, rSetL, rIxL, rIxT, L2.start, List.map_cons, List.map_nil, List.length_cons, List.length_nil, Nat.reduceAdd, Nat.reduceSub, List.replicate_succ, List.replicate_zero, List.getElem?_cons_zero, List.getElem?_cons_succ, List.set_cons_zero, List.set_cons_succ, Option.some.injEq, exists_eq_left', exists_eq_left, exists_and_left, V.int.injEq, V.bl.injEq, V.ref.injEq, V.str.injEq, List.cons.injEq, and_true, true_and, List.nil_append, List.cons_append, List.append_nil, reduceCtorEq, false_and, exists_false, or_false, false_or, and_false, Int.reduceNeg, decide_eq_true_eq, Bool.not_eq_true', decide_eq_false_iff_not, and_assoc, tYes, ↓reduceIte, wipe, Bool.false_eq_true, Bool.true_eq_false, cxOf, false_implies, true_implies, implies_true, forall_const, spDraw, tDisp, tPairs]
  refine fun pd hpd => ⟨upd_same, [(.inl 1, .int 2)], rfl, by decide, by decide, fun pt hpt => ?_⟩
  rw [upd_upd] at hpt ⊢
  have sd := Same.new (o := HO.dK (mergeK [] [(.inl 1, .int 2)])) hpd
  have st := Same.new (o := HO.tup [V.non, V.str (Str.ofString "123"), V.ref pd, V.int 5, V.bl true]) hpt
  have npd := hh6.off hpd
  have epd := st pd _ (upd_same (H := H6) (o := HO.dK (mergeK [] [(.inl 1, .int 2)])))
  have hh7 := (hh6.same sd).same st
  refine ⟨q, hh7, by decide, by decide, fun j H8 j0 j1 hh8 b8 => ?_⟩
  obtain ⟨x, hx, ex⟩ := atI_in (xs := [V.non, V.str (Str.ofString "123"), V.ref pd, V.int 5, V.bl true]) j0 j1
  refine ⟨_, SqT.of (b8 _ _ upd_same ((hh6.same sd).off hpt)), x, ex, ?_⟩
  have pA8 := (pA6.same (sd.trans st)).but b8
  have eL8 := b8 _ _ ((sd.trans st) _ _ eL) nL
  have ed8 := b8 _ _ epd npd
  have xn : x ≠ .ref h ∧ ∀ Hx, (∀ c o, H8 c = some o → Hx c = some o) → Arg Hx x ∧ ¬ FewRow Hx x := by
    simp only [List.mem_cons, List.not_mem_nil, or_false] at hx
    rcases hx with rfl | rfl | rfl | rfl | rfl
    · exact ⟨(fun z => nomatch z), fun _ _ => arg_no True.intro fun a z => nomatch z⟩
    · exact ⟨(fun z => nomatch z), fun _ _ => arg_no True.intro fun a z => nomatch z⟩
    · exact ⟨fun z => npd (by injection z), fun Hx s => arg_dk (s _ _ ed8)⟩
    · exact ⟨(fun z => nomatch z), fun _ _ => arg_no True.intro fun a z => nomatch z⟩
    · exact ⟨(fun z => nomatch z), fun _ _ => arg_no True.intro fun a z => nomatch z⟩
  clear hx ex b8 sd st epd hh7 hpd hpt pA6 eL
  subst eR
  refine tSeq_cut fun R eR => ?_
  have aL : ∀ Hx, Hx L = some (.lst xs) → Arg Hx (.ref L) ∧ ¬ FewRow Hx (.ref L) := fun Hx e =>
    ⟨arg_row (.inr e) fun y hy => by obtain ⟨n, rfl⟩ := ix y hy; exact True.intro, few_row (.inr e) lx⟩
  refine ⟨_, rfl, by decide, by decide, for_range (lo := 0) (n := 3) (fun i z H' => ∃ v6 : Option V, z = [some (.ref a), some (.ref h), some (.ref A), some (.ref B), some (.ref L), some x, v6, none, none, none, none, none, none] ∧ Same H8 H') ⟨none, rfl, Same.refl H8⟩ ?_ ?_⟩
  · rintro t z H' ht ⟨v6, rfl, s⟩
    have t0 : (0 : Int) ≤ 0 + (t : Nat) := by omega
    have t1 : (0 : Int) + (t : Nat) < 3 := by omega
    show tSeq _ _ _ _ _
    refine tSeq_cut fun R2 eR2 => ?_
    simp only [tSeq, tAsg, tDrop, tRet, tRetN, tIfS, tNext, tTest, tB, tNot, tAnd, tOr, tChain, tIf, tAndV, tOrV, tNotV, tOp, tUn, tCB, tCons, tNil, tVar, tC, tCall, tCallS, gName, rI, rI0, rU, rEq, rNe, tTup, tLst, gSub, rSetL, rIxL, rIxT, L2.start, List.map_cons, List.map_nil, List.length_cons, List.length_nil, Nat.reduceAdd, Nat.reduceSub, List.replicate_succ, List.replicate_zero, List.getElem?_cons_zero, List.getElem?_cons_succ, List.set_cons_zero, List.set_cons_succ, Option.some.injEq, exists_eq_left', exists_eq_left, exists_and_left, V.int.injEq, V.bl.injEq, V.ref.injEq, V.str.injEq, List.cons.injEq, and_true, true_and, List.nil_append, List.cons_append, List.append_nil, reduceCtorEq, false_and, exists_false, or_false, false_or, and_false, Int.reduceNeg, decide_eq_true_eq, Bool.not_eq_true', decide_eq_false_iff_not, and_assoc, tYes, ↓reduceIte, wipe, Bool.false_eq_true, Bool.true_eq_false, cxOf, false_implies, true_implies, implies_true, forall_const]
    have eL9 := s _ _ eL8
    refine ref_many t0 t1 (aL _ eL9) fun H9 p s9 ep => ⟨by decide, fun v hv => ?_⟩
    refine ne_is ((Same.new hv) _ _ ep) upd_same (.inr rfl) ⟨_, rfl, ?_⟩
    rw [if_neg (fun z => by cases z)]
    have s10 := s9.trans (Same.new (o := HO.tup [V.int 0, V.str (Str.ofString "many")]) hv)
    generalize upd H9 v (HO.tup [V.int 0, V.str (Str.ofString "many")]) = H10 at s10 ⊢
    refine ⟨_, .inl ⟨SqL.of (s10 _ _ eL9), fun u hu => ?_⟩⟩
    have rT : Row (upd H10 u (HO.tup xs)) u xs := .inl upd_same
    refine ref_many t0 t1 ⟨arg_row rT fun y hy => by obtain ⟨n, rfl⟩ := ix y hy; exact True.intro, few_row rT lx⟩ fun H11 p s11 ep => ⟨by decide, fun v hv => ?_⟩
    refine ne_is ((Same.new hv) _ _ ep) upd_same (.inr rfl) ⟨_, rfl, ?_⟩
    rw [if_neg (fun z => by cases z)]
    have s12 := s.trans (s10.trans ((Same.new (o := HO.tup xs) hu).trans (s11.trans (Same.new (o := HO.tup [V.int 0, V.str (Str.ofString "many")]) hv))))
    generalize upd H11 v (HO.tup [V.int 0, V.str (Str.ofString "many")]) = H12 at s12 ⊢
    subst eR2
    simp only [tSeq, tAsg, tDrop, tRet, tRetN, tIfS, tNext, tTest, tB, tNot, tAnd, tOr, tChain, tIf, tAndV, tOrV, tNotV, tOp, tUn, tCB, tCons, tNil, tVar, tC, tCall, tCallS, gName, rI, rI0, rU, rEq, rNe, tTup, tLst, gSub, rSetL, rIxL, rIxT, L2.start, List.map_cons, List.map_nil, List.length_cons, List.length_nil, Nat.reduceAdd, Nat.reduceSub, List.replicate_succ, List.replicate_zero, List.getElem?_cons_zero, List.getElem?_cons_succ, List.set_cons_zero, List.set_cons_succ, Option.some.injEq, exists_eq_left', exists_eq_left, exists_and_left, V.int.injEq, V.bl.injEq, V.ref.injEq, V.str.injEq, List.cons.injEq, and_true, true_and, List.nil_append, List.cons_append, List.append_nil, reduceCtorEq, false_and, exists_false, or_false, false_or, and_false, Int.reduceNeg, decide_eq_true_eq, Bool.not_eq_true', decide_eq_false_iff_not, and_assoc, tYes, ↓reduceIte, wipe, Bool.false_eq_true, Bool.true_eq_false, cxOf, false_implies, true_implies, implies_true, forall_const]
    refine ref_many t0 t1 (xn.2 _ s12) fun H13 p s13 ep => ⟨by decide, fun v hv => ?_⟩
    refine ne_is ((Same.new hv) _ _ ep) upd_same (.inr rfl) ⟨_, rfl, ?_⟩
    rw [if_neg (fun z => by cases z)]
    have s14 := s12.trans (s13.trans (Same.new (o := HO.tup [V.int 0, V.str (Str.ofString "many")]) hv))
    generalize upd H13 v (HO.tup [V.int 0, V.str (Str.ofString "many")]) = H14 at s14 ⊢
    refine ⟨⟨by decide, by decide, by decide⟩, by decide, fun p hp => ⟨p, 12, _, rfl, rfl, upd_same, by decide, by decide, by decide, fun u hu => ?_⟩⟩
    have e12 : (List.replicate (Int.toNat 12) [V.int (10 ^ Int.toNat 9)]).flatten = (List.replicate 12 ((10 : Int) ^ Int.toNat 9)).map V.int := by
      rw [rep_flat, List.map_replicate]
      rfl
    rw [e12]
    have oT : PoolOk (upd (upd H14 p (HO.lst [V.int (10 ^ Int.toNat 9)])) u (HO.lst ((List.replicate 12 ((10 : Int) ^ Int.toNat 9)).map V.int))) (.ref u) u (List.replicate 12 ((10 : Int) ^ Int.toNat 9)) := ⟨rfl, .inr upd_same, by decide, fun n hn => by rw [List.eq_of_mem_replicate hn]; exact ⟨by decide, by decide⟩⟩
    refine ⟨_, _, rfl, t0, t1, ok_arg oT, .inr (.inr ⟨u, _, oT, fun H15 r s15 er => ⟨by decide, fun v hv => ?_⟩⟩)⟩
    refine ne_s1 ((Same.new hv) _ _ er) upd_same (by decide +kernel) ⟨_, rfl, ?_⟩
    rw [if_neg (fun z => by cases z)]
    exact s14.trans ((Same.new hp).trans ((Same.new hu).trans (s15.trans (Same.new hv))))
  rintro z H9 ⟨v6, rfl, s9⟩
  have pA9 := pA8.same s9
  have hh9 := hh8.same s9
  show R _ _ _
  subst eR
  refine tSeq_cut fun R eR => ?_
  simp only [tSeq, tAsg, tDrop, tRet, tRetN, tIfS, tNext, tTest, tB, tNot, tAnd, tOr, tChain, tIf, tAndV, tOrV, tNotV, tOp, tUn, tCB, tCons, tNil, tVar, tC, tCall, tCallS, gName, rI, rI0, rU, rEq, rNe, tTup, tLst, gSub, rSetL, rIxL, rIxT, L2.start, List.map_cons, List.map_nil, List.length_cons, List.length_nil, Nat.reduceAdd, Nat.reduceSub, List.replicate_succ, List.replicate_zero, List.getElem?_cons_zero, List.getElem?_cons_succ, List.set_cons_zero, List.set_cons_succ, Option.some.injEq, exists_eq_left', exists_eq_left, exists_and_left, V.int.injEq, V.bl.injEq, V.ref.injEq, V.str.injEq, List.cons.injEq, and_true, true_and, List.nil_append, List.cons_append, List.append_nil, reduceCtorEq, false_and, exists_false, or_false, false_or, and_false, Int.reduceNeg, decide_eq_true_eq, Bool.not_eq_true', decide_eq_false_iff_not, and_assoc, tYes, ↓reduceIte, wipe, Bool.false_eq_true, Bool.true_eq_false, cxOf, false_implies, true_implies, implies_true, forall_const, spDraw]
  refine ⟨q, hh9, by decide, by decide, fun d H10 d0 d1 hh10 b10 => ?_⟩
  clear pA9 pA8 hh9 s9 hh8 eL8 xn aL nL lx ly ix hh6 j0 j1 ed8
  subst eR
  refine tSeq_cut fun R eR => ?_
  refine ⟨_, rfl, _, rfl, by omega, by omega, fun W hW => ?_⟩
  have n1 := hh10.off hW
  have n2 := handOffq hh10 hW
  refine lc_range (lo := 0) (n := (1 + d).toNat) (fun i h' => ∃ ms : List Int, HandAt h' h q ∧ But h H10 h' ∧ h' W = some (.lst (ms.map V.int)) ∧ ms.length = i ∧ ∀ m, m ∈ ms → 1 ≤ m ∧ m ≤ 1000000000)
    ⟨[], hh10.same (Same.new hW), But.new hW, upd_same, rfl, fun m hm => absurd hm List.not_mem_nil⟩ ?_ ?_
  · rintro i h' hi ⟨ms, hd, bt, eW, ln, mb⟩
    simp only [tSeq, tAsg, tDrop, tRet, tRetN, tIfS, tNext, tTest, tB, tNot, tAnd, tOr, tChain, tIf, tAndV, tOrV, tNotV, tOp, tUn, tCB, tCons, tNil, tVar, tC, tCall, tCallS, gName, rI, rI0, rU, rEq, rNe, tTup, tLst, gSub, rSetL, rIxL, rIxT, L2.start, List.map_cons, List.map_nil, List.length_cons, List.length_nil, Nat.reduceAdd, Nat.reduceSub, List.replicate_succ, List.replicate_zero, List.getElem?_cons_zero, List.getElem?_cons_succ, List.set_cons_zero, List.set_cons_succ, Option.some.injEq, exists_eq_left', exists_eq_left, exists_and_left, V.int.injEq, V.bl.injEq, V.ref.injEq, V.str.injEq, List.cons.injEq, and_true, true_and, List.nil_append, List.cons_append, List.append_nil, reduceCtorEq, false_and, exists_false, or_false, false_or, and_false, Int.reduceNeg, decide_eq_true_eq, Bool.not_eq_true', decide_eq_false_iff_not, and_assoc, tYes, ↓reduceIte, wipe, Bool.false_eq_true, Bool.true_eq_false, cxOf, false_implies, true_implies, implies_true, forall_const, spDraw, e9]
    refine ⟨⟨by decide, by decide, by decide⟩, q, hd, by decide, by decide, fun y H4 y0 y1 hd4 b4 => ?_⟩
    refine ⟨_, b4 _ _ eW n1, by rw [List.length_map]; exact small1000 (by omega), handPut hd4 n1 n2, butAt (bt.trans b4) hW, ms ++ [1 + y], by rw [upd_same, List.map_append]; rfl, by rw [List.length_append, ln]; rfl, fun m hm => ?_⟩
    rcases List.mem_append.mp hm with hm | hm
    · exact mb m hm
    · rw [List.mem_singleton.mp hm]
      exact ⟨by omega, by omega⟩
  rintro H11 ⟨ws, hh11, b11, eW, lw, bw⟩
  show R _ _ _
  subst eR
  refine tSeq_cut fun R eR => ?_
  simp only [tSeq, tAsg, tDrop, tRet, tRetN, tIfS, tNext, tTest, tB, tNot, tAnd, tOr, tChain, tIf, tAndV, tOrV, tNotV, tOp, tUn, tCB, tCons, tNil, tVar, tC, tCall, tCallS, gName, rI, rI0, rU, rEq, rNe, tTup, tLst, gSub, rSetL, rIxL, rIxT, L2.start, List.map_cons, List.map_nil, List.length_cons, List.length_nil, Nat.reduceAdd, Nat.reduceSub, List.replicate_succ, List.replicate_zero, List.getElem?_cons_zero, List.getElem?_cons_succ, List.set_cons_zero, List.set_cons_succ, Option.some.injEq, exists_eq_left', exists_eq_left, exists_and_left, V.int.injEq, V.bl.injEq, V.ref.injEq, V.str.injEq, List.cons.injEq, and_true, true_and, List.nil_append, List.cons_append, List.append_nil, reduceCtorEq, false_and, exists_false, or_false, false_or, and_false, Int.reduceNeg, decide_eq_true_eq, Bool.not_eq_true', decide_eq_false_iff_not, and_assoc, tYes, ↓reduceIte, wipe, Bool.false_eq_true, Bool.true_eq_false, cxOf, false_implies, true_implies, implies_true, forall_const, spDraw]
  refine ⟨q, hh11, by omega, by omega, fun at_ H12 a0 a1 hh12 b12 => ?_⟩
  have eW12 := b12 _ _ eW n1
  subst eR
  refine tSeq_cut fun R eR => ?_
  simp only [tSeq, tAsg, tDrop, tRet, tRetN, tIfS, tNext, tTest, tB, tNot, tAnd, tOr, tChain, tIf, tAndV, tOrV, tNotV, tOp, tUn, tCB, tCons, tNil, tVar, tC, tCall, tCallS, gName, rI, rI0, rU, rEq, rNe, tTup, tLst, gSub, rSetL, rIxL, rIxT, L2.start, List.map_cons, List.map_nil, List.length_cons, List.length_nil, Nat.reduceAdd, Nat.reduceSub, List.replicate_succ, List.replicate_zero, List.getElem?_cons_zero, List.getElem?_cons_succ, List.set_cons_zero, List.set_cons_succ, Option.some.injEq, exists_eq_left', exists_eq_left, exists_and_left, V.int.injEq, V.bl.injEq, V.ref.injEq, V.str.injEq, List.cons.injEq, and_true, true_and, List.nil_append, List.cons_append, List.append_nil, reduceCtorEq, false_and, exists_false, or_false, false_or, and_false, Int.reduceNeg, decide_eq_true_eq, Bool.not_eq_true', decide_eq_false_iff_not, and_assoc, tYes, ↓reduceIte, wipe, Bool.false_eq_true, Bool.true_eq_false, cxOf, false_implies, true_implies, implies_true, forall_const, spDraw]
  refine ⟨q, hh12, by omega, by omega, fun late H13 l0 l1 hh13 b13 => ?_⟩
  have eW13 := b13 _ _ eW12 n1
  obtain ⟨at_, rfl⟩ := Int.eq_ofNat_of_zero_le a0
  obtain ⟨late, rfl⟩ := Int.eq_ofNat_of_zero_le l0
  have al : at_ < ws.length := by omega
  have ll : late < ws.length := by omega
  have wl : ws.length ≤ 12 := by omega
  clear hW b11 b12 b13 eW eW12 hh10 hh11 hh12
  subst eR
  refine tSeq_cut fun R eR => ?_
  simp only [tSeq, tAsg, tDrop, tRet, tRetN, tIfS, tNext, tTest, tB, tNot, tAnd, tOr, tChain, tIf, tAndV, tOrV, tNotV, tOp, tUn, tCB, tCons, tNil, tVar, tC, tCall, tCallS, gName, rI, rI0, rU, rEq, rNe, tTup, tLst, gSub, rSetL, rIxL, rIxT, L2.start, List.map_cons, List.map_nil, List.length_cons, List.length_nil, Nat.reduceAdd, Nat.reduceSub, List.replicate_succ, List.replicate_zero, List.getElem?_cons_zero, List.getElem?_cons_succ, List.set_cons_zero, List.set_cons_succ, Option.some.injEq, exists_eq_left', exists_eq_left, exists_and_left, V.int.injEq, V.bl.injEq, V.ref.injEq, V.str.injEq, List.cons.injEq, and_true, true_and, List.nil_append, List.cons_append, List.append_nil, reduceCtorEq, false_and, exists_false, or_false, false_or, and_false, Int.reduceNeg, decide_eq_true_eq, Bool.not_eq_true', decide_eq_false_iff_not, and_assoc, tYes, ↓reduceIte, wipe, Bool.false_eq_true, Bool.true_eq_false, cxOf, false_implies, true_implies, implies_true, forall_const]
  have ixs : ∀ (xs : List V) (j : Nat), j < xs.length → ixN xs.length (j : Int) = some j := fun xs j hj => by
    unfold ixN
    rw [if_pos (by omega), if_pos (by omega)]
    simp
  refine ⟨h, q, rfl, hh13, fun x1 H14 p1 w1 f1 hh14 b14 => ⟨_, b14 _ _ eW13 n1, late, ixs _ _ (by rw [List.length_map]; exact ll), ?_⟩⟩
  have nx1 : x1 ≠ .ref W := fun z => by
    have y := f1 W z
    rw [eW13] at y
    cases y
  have p1' := plain_upd (o := HO.lst ((ws.map V.int).set late x1)) p1 nx1
  have hh15 := handPut (o := HO.lst ((ws.map V.int).set late x1)) hh14 n1 n2
  have eW15 : upd H14 W (HO.lst ((ws.map V.int).set late x1)) W = some (.lst ((ws.map V.int).set late x1)) := upd_same
  generalize upd H14 W (HO.lst ((ws.map V.int).set late x1)) = H15 at p1' hh15 eW15 ⊢
  clear p1 f1 b14 hh14 eW13 hh13
  subst eR
  refine tSeq_cut fun R eR => ?_
  simp only [tSeq, tAsg, tDrop, tRet, tRetN, tIfS, tNext, tTest, tB, tNot, tAnd, tOr, tChain, tIf, tAndV, tOrV, tNotV, tOp, tUn, tCB, tCons, tNil, tVar, tC, tCall, tCallS, gName, rI, rI0, rU, rEq, rNe, tTup, tLst, gSub, rSetL, rIxL, rIxT, L2.start, List.map_cons, List.map_nil, List.length_cons, List.length_nil, Nat.reduceAdd, Nat.reduceSub, List.replicate_succ, List.replicate_zero, List.getElem?_cons_zero, List.getElem?_cons_succ, List.set_cons_zero, List.set_cons_succ, Option.some.injEq, exists_eq_left', exists_eq_left, exists_and_left, V.int.injEq, V.bl.injEq, V.ref.injEq, V.str.injEq, List.cons.injEq, and_true, true_and, List.nil_append, List.cons_append, List.append_nil, reduceCtorEq, false_and, exists_false, or_false, false_or, and_false, Int.reduceNeg, decide_eq_true_eq, Bool.not_eq_true', decide_eq_false_iff_not, and_assoc, tYes, ↓reduceIte, wipe, Bool.false_eq_true, Bool.true_eq_false, cxOf, false_implies, true_implies, implies_true, forall_const]
  refine ⟨h, q, rfl, hh15, fun x2 H16 p2 w2 f2 hh16 b16 => ⟨_, b16 _ _ eW15 n1, at_, ixs _ _ (by rw [List.length_set, List.length_map]; exact al), ?_⟩⟩
  have nx2 : x2 ≠ .ref W := fun z => by
    have y := f2 W z
    rw [eW15] at y
    cases y
  have p1'' := plain_upd (o := HO.lst (((ws.map V.int).set late x1).set at_ x2)) (plain_but hh16 b16 p1') nx1
  have p2'' := plain_upd (o := HO.lst (((ws.map V.int).set late x1).set at_ x2)) p2 nx2
  have hh17 := handPut (o := HO.lst (((ws.map V.int).set late x1).set at_ x2)) hh16 n1 n2
  have eW17 : upd H16 W (HO.lst (((ws.map V.int).set late x1).set at_ x2)) W = some (.lst (((ws.map V.int).set late x1).set at_ x2)) := upd_same
  generalize upd H16 W (HO.lst (((ws.map V.int).set late x1).set at_ x2)) = H17 at p1'' p2'' hh17 eW17 ⊢
  clear p2 f2 b16 hh16 eW15 hh15 p1'
  -- what is first wrong
  have lY : (((ws.map V.int).set late x1).set at_ x2).length = ws.length := by rw [List.length_set, List.length_set, List.length_map]
  have gY : ∀ j : Nat, j ≠ at_ → j ≠ late → (((ws.map V.int).set late x1).set at_ x2)[j]? = (ws.map V.int)[j]? := fun j j1 j2 => by
    rw [List.getElem?_set_ne (Ne.symm j1), List.getElem?_set_ne (Ne.symm j2)]
  have bad : ∃ y, (((ws.map V.int).set late x1).set at_ x2)[min at_ late]? = some y ∧ whole y 1 1000000000 = false := by
    by_cases g : at_ ≤ late
    · rw [Nat.min_eq_left g]
      exact ⟨x2, List.getElem?_set_self (by rw [List.length_set, List.length_map]; exact al), w2⟩
    · rw [Nat.min_eq_right (by omega)]
      exact ⟨x1, by rw [List.getElem?_set_ne (by omega)]; exact List.getElem?_set_self (by rw [List.length_map]; exact ll), w1⟩
  obtain ⟨y, ey, wy⟩ := bad
  have okY : ∀ (j : Nat) (z : V), j < min at_ late → (((ws.map V.int).set late x1).set at_ x2)[j]? = some z → whole z 1 1000000000 = true := fun j z hj hz => by
    rw [gY j (by omega) (by omega)] at hz
    obtain ⟨n, hn, rfl⟩ := nat_map hz
    have nb := bw n (List.mem_of_getElem? hn)
    exact whole_int nb.1 nb.2
  have plY : ∀ Hx, Plain Hx x1 → Plain Hx x2 → ∀ z, z ∈ ((ws.map V.int).set late x1).set at_ x2 → Plain Hx z := fun Hx q1 q2 z hz => by
    rcases List.mem_or_eq_of_mem_set hz with hz | rfl
    · rcases List.mem_or_eq_of_mem_set hz with hz | rfl
      · obtain ⟨n, _, rfl⟩ := List.mem_map.mp hz
        exact True.intro
      · exact q1
    · exact q2
  generalize ((ws.map V.int).set late x1).set at_ x2 = ys at lY ey okY plY eW17 gY
  clear w1 w2
  subst eR
  refine tSeq_cut fun R eR => ?_
  simp only [tSeq, tAsg, tDrop, tRet, tRetN, tIfS, tNext, tTest, tB, tNot, tAnd, tOr, tChain, tIf, tAndV, tOrV, tNotV, tOp, tUn, tCB, tCons, tNil, tVar, tC, tCall, tCallS, gName, rI, rI0, rU, rEq, rNe, tTup, tLst, gSub, rSetL, rIxL, rIxT, L2.start, List.map_cons, List.map_nil, List.length_cons, List.length_nil, Nat.reduceAdd, Nat.reduceSub, List.replicate_succ, List.replicate_zero, List.getElem?_cons_zero, List.getElem?_cons_succ, List.set_cons_zero, List.set_cons_succ, Option.some.injEq, exists_eq_left', exists_eq_left, exists_and_left, V.int.injEq, V.bl.injEq, V.ref.injEq, V.str.injEq, List.cons.injEq, and_true, true_and, List.nil_append, List.cons_append, List.append_nil, reduceCtorEq, false_and, exists_false, or_false, false_or, and_false, Int.reduceNeg, decide_eq_true_eq, Bool.not_eq_true', decide_eq_false_iff_not, and_assoc, tYes, ↓reduceIte, wipe, Bool.false_eq_true, Bool.true_eq_false, cxOf, false_implies, true_implies, implies_true, forall_const, spDraw]
  suffices cont : ∀ (Hx : Hp) (G : Addr), HandAt Hx h q → Hx W = some (.lst ys) → Row Hx G ys → G ≠ h → Plain Hx x1 → Plain Hx x2 →
      R { nx := fun x H' => Q V.non H', rt := Q } [some (V.ref a), some (V.ref h), some (V.ref A), some (V.ref B), some (V.ref L), some x, v6, some (V.int (1 + d)), some (V.ref W), none, some (V.int (at_ : Nat)), some (V.int (late : Nat)), some (V.ref G)] Hx by
    refine ⟨q, hh17, by decide, by decide, fun e H18 e0 e1 hh18 b18 => ⟨rfl, ?_⟩⟩
    have eW18 := b18 _ _ eW17 n1
    have q1 := plain_but hh18 b18 p1''
    have q2 := plain_but hh18 b18 p2''
    split
    · refine ⟨_, .inl ⟨SqL.of eW18, fun l hl => ?_⟩⟩
      have s := Same.new (o := HO.tup ys) hl
      exact cont _ l (hh18.same s) (s _ _ eW18) (.inl upd_same) (hh18.off hl) (q1.same s) (q2.same s)
    · exact cont H18 W hh18 eW18 (.inr eW18) n1 q1 q2
  clear eW17 hh17 p1'' p2'' H17
  intro H17 G hh17 eW17 rG nG p1 p2
  have ly : ys.length ≤ 12 := by omega
  have bad : ∀ Hx X, Row Hx X ys → BadAt Hx (.ref X) X ys (min at_ late) y := fun Hx X r => ⟨rfl, r, ly, okY, ey, wy⟩
  subst eR
  refine tSeq_cut fun R eR => ?_
  simp only [tSeq, tAsg, tDrop, tRet, tRetN, tIfS, tNext, tTest, tB, tNot, tAnd, tOr, tChain, tIf, tAndV, tOrV, tNotV, tOp, tUn, tCB, tCons, tNil, tVar, tC, tCall, tCallS, gName, rI, rI0, rU, rEq, rNe, tTup, tLst, gSub, rSetL, rIxL, rIxT, L2.start, List.map_cons, List.map_nil, List.length_cons, List.length_nil, Nat.reduceAdd, Nat.reduceSub, List.replicate_succ, List.replicate_zero, List.getElem?_cons_zero, List.getElem?_cons_succ, List.set_cons_zero, List.set_cons_succ, Option.some.injEq, exists_eq_left', exists_eq_left, exists_and_left, V.int.injEq, V.bl.injEq, V.ref.injEq, V.str.injEq, List.cons.injEq, and_true, true_and, List.nil_append, List.cons_append, List.append_nil, reduceCtorEq, false_and, exists_false, or_false, false_or, and_false, Int.reduceNeg, decide_eq_true_eq, Bool.not_eq_true', decide_eq_false_iff_not, and_assoc, tYes, ↓reduceIte, wipe, Bool.false_eq_true, Bool.true_eq_false, cxOf, false_implies, true_implies, implies_true, forall_const, spDraw]
  have em : (if ((late : Nat) : Int) < ((at_ : Nat) : Int) then ((late : Nat) : Int) else ((at_ : Nat) : Int)) = ((min at_ late : Nat) : Int) := by
    split <;> omega
  rw [em]
  refine ⟨q, hh17, by decide, by decide, fun t H18 t0 t1 hh18 b18 => ?_⟩
  have eW18 := b18 _ _ eW17 n1
  have rG18 : Row H18 G ys := rG.elim (fun e => .inl (b18 _ _ e nG)) fun e => .inr (b18 _ _ e nG)
  have p18 := plain_but hh18 b18 p1
  have q18 := plain_but hh18 b18 p2
  refine ⟨_, _, rfl, t0, t1, arg_row rG18 (plY _ p18 q18), .inr (.inl ⟨G, ys, _, y, bad _ G rG18, fun H19 p s19 ep => ⟨by decide, fun v hv => ?_⟩⟩)⟩
  refine ne_is ((Same.new hv) _ _ ep) upd_same (.inl rfl) ⟨_, rfl, ?_⟩
  rw [if_neg (fun z => by cases z)]
  have s20 := s19.trans (Same.new (o := HO.tup [V.int ((min at_ late : Nat) : Int), V.str (Str.ofString "coin")]) hv)
  generalize upd H19 v (HO.tup [V.int ((min at_ late : Nat) : Int), V.str (Str.ofString "coin")]) = H20 at s20 ⊢
  refine ⟨_, _, rfl, by decide, by decide, arg_row (rG18.same s20) (plY _ (p18.same s20) (q18.same s20)), .inr (.inl ⟨G, ys, _, y, bad _ G (rG18.same s20), fun H21 p s21 ep => ⟨by decide, fun v hv => ?_⟩⟩)⟩
  refine ne_is ((Same.new hv) _ _ ep) upd_same (.inl rfl) ⟨_, rfl, ?_⟩
  rw [if_neg (fun z => by cases z)]
  have s22 := s20.trans (s21.trans (Same.new (o := HO.tup [V.int ((min at_ late : Nat) : Int), V.str (Str.ofString "coin")]) hv))
  generalize upd H21 v (HO.tup [V.int ((min at_ late : Nat) : Int), V.str (Str.ofString "coin")]) = H22 at s22 ⊢
  have eW22 := s22 _ _ eW18
  have hh22 := hh18.same s22
  have p22 := p18.same s22
  have q22 := q18.same s22
  clear s20 s21 s19 hv rG rG18 eW17 eW18 hh17 hh18 b18 p18 q18 p1 p2 s22 nG
  subst eR
  refine tSeq_cut fun R eR => ?_
  simp only [tSeq, tAsg, tDrop, tRet, tRetN, tIfS, tNext, tTest, tB, tNot, tAnd, tOr, tChain, tIf, tAndV, tOrV, tNotV, tOp, tUn, tCB, tCons, tNil, tVar, tC, tCall, tCallS, gName, rI, rI0, rU, rEq, rNe, tTup, tLst, gSub, rSetL, rIxL, rIxT, L2.start, List.map_cons, List.map_nil, List.length_cons, List.length_nil, Nat.reduceAdd, Nat.reduceSub, List.replicate_succ, List.replicate_zero, List.getElem?_cons_zero, List.getElem?_cons_succ, List.set_cons_zero, List.set_cons_succ, Option.some.injEq, exists_eq_left', exists_eq_left, exists_and_left, V.int.injEq, V.bl.injEq, V.ref.injEq, V.str.injEq, List.cons.injEq, and_true, true_and, List.nil_append, List.cons_append, List.append_nil, reduceCtorEq, false_and, exists_false, or_false, false_or, and_false, Int.reduceNeg, decide_eq_true_eq, Bool.not_eq_true', decide_eq_false_iff_not, and_assoc, tYes, ↓reduceIte, wipe, Bool.false_eq_true, Bool.true_eq_false, cxOf, false_implies, true_implies, implies_true, forall_const]
  refine ⟨by decide, fun u hu => ⟨u, _, _, rfl, rfl, upd_same, by omega, by omega, small300 (by show 1 * (13 - (1 + d)).toNat ≤ 300; omega), fun v hv => ?_⟩⟩
  have su := Same.new (o := HO.lst [V.int 0]) hu
  have sv := Same.new (o := HO.lst (List.replicate (13 - (1 + d)).toNat [V.int 0]).flatten) hv
  have eW23 := sv _ _ (su _ _ eW22)
  refine ⟨W, v, _, _, rfl, rfl, eW23, upd_same, ?_, fun r hr => ?_⟩
  · rw [rep_flat, List.length_replicate]
    exact small300 (by omega)
  have sr := Same.new (o := HO.lst (ys ++ (List.replicate (13 - (1 + d)).toNat [V.int 0]).flatten)) hr
  have rR : Row (upd (upd (upd H22 u (HO.lst [V.int 0])) v (HO.lst (List.replicate (13 - (1 + d)).toNat [V.int 0]).flatten)) r (HO.lst (ys ++ (List.replicate (13 - (1 + d)).toNat [V.int 0]).flatten))) r (ys ++ (List.replicate (13 - (1 + d)).toNat [V.int 0]).flatten) := .inr upd_same
  have s25 := su.trans (sv.trans sr)
  generalize upd (upd (upd H22 u (HO.lst [V.int 0])) v (HO.lst (List.replicate (13 - (1 + d)).toNat [V.int 0]).flatten)) r (HO.lst (ys ++ (List.replicate (13 - (1 + d)).toNat [V.int 0]).flatten)) = H25 at rR s25 ⊢
  refine ref_many (by decide) (by decide) ⟨arg_row rR fun z hz => ?_, few_row rR ?_⟩ fun H26 p s26 ep => ⟨by decide, fun v hv => ?_⟩
  · rcases List.mem_append.mp hz with hz | hz
    · exact plY _ (p22.same s25) (q22.same s25) z hz
    · rw [rep_flat] at hz
      rw [List.eq_of_mem_replicate hz]
      exact True.intro
  · rw [List.length_append, rep_flat, List.length_replicate]
    omega
  refine ne_is ((Same.new hv) _ _ ep) upd_same (.inr rfl) ⟨_, rfl, ?_⟩
  rw [if_neg (fun z => by cases z)]
  have s27 := s25.trans (s26.trans (Same.new (o := HO.tup [V.int 0, V.str (Str.ofString "many")]) hv))
  generalize upd H26 v (HO.tup [V.int 0, V.str (Str.ofString "many")]) = H27 at s27 ⊢
  have eW27 := s27 _ _ eW22
  have hh27 := hh22.same s27
  clear s26 hv hr sr rR sv su s25 eW23 hu s27 p22 q22 eW22 hh22
  subst eR
  refine tSeq_cut fun R eR => ?_
  simp only [tSeq, tAsg, tDrop, tRet, tRetN, tIfS, tNext, tTest, tB, tNot, tAnd, tOr, tChain, tIf, tAndV, tOrV, tNotV, tOp, tUn, tCB, tCons, tNil, tVar, tC, tCall, tCallS, gName, rI, rI0, rU, rEq, rNe, tTup, tLst, gSub, rSetL, rIxL, rIxT, L2.start, List.map_cons, List.map_nil, List.length_cons, List.length_nil, Nat.reduceAdd, Nat.reduceSub, List.replicate_succ, List.replicate_zero, List.getElem?_cons_zero, List.getElem?_cons_succ, List.set_cons_zero, List.set_cons_succ, Option.some.injEq, exists_eq_left', exists_eq_left, exists_and_left, V.int.injEq, V.bl.injEq, V.ref.injEq, V.str.injEq, List.cons.injEq, and_true, true_and, List.nil_append, List.cons_append, List.append_nil, reduceCtorEq, false_and, exists_false, or_false, false_or, and_false, Int.reduceNeg, decide_eq_true_eq, Bool.not_eq_true', decide_eq_false_iff_not, and_assoc, tYes, ↓reduceIte, wipe, Bool.false_eq_true, Bool.true_eq_false, cxOf, false_implies, true_implies, implies_true, forall_const]
  refine ⟨_, eW27, late, ixs _ _ (by omega), ?_⟩
  subst eR
  refine tSeq_cut fun R eR => ?_
  simp only [tSeq, tAsg, tDrop, tRet, tRetN, tIfS, tNext, tTest, tB, tNot, tAnd, tOr, tChain, tIf, tAndV, tOrV, tNotV, tOp, tUn, tCB, tCons, tNil, tVar, tC, tCall, tCallS, gName, rI, rI0, rU, rEq, rNe, tTup, tLst, gSub, rSetL, rIxL, rIxT, L2.start, List.map_cons, List.map_nil, List.length_cons, List.length_nil, Nat.reduceAdd, Nat.reduceSub, List.replicate_succ, List.replicate_zero, List.getElem?_cons_zero, List.getElem?_cons_succ, List.set_cons_zero, List.set_cons_succ, Option.some.injEq, exists_eq_left', exists_eq_left, exists_and_left, V.int.injEq, V.bl.injEq, V.ref.injEq, V.str.injEq, List.cons.injEq, and_true, true_and, List.nil_append, List.cons_append, List.append_nil, reduceCtorEq, false_and, exists_false, or_false, false_or, and_false, Int.reduceNeg, decide_eq_true_eq, Bool.not_eq_true', decide_eq_false_iff_not, and_assoc, tYes, ↓reduceIte, wipe, Bool.false_eq_true, Bool.true_eq_false, cxOf, false_implies, true_implies, implies_true, forall_const, e9]
  refine ⟨⟨by decide, by decide, by decide⟩, _, upd_same, at_, ixs _ _ (by rw [List.length_set]; omega), ?_⟩
  rw [upd_upd]
  have ez : (ys.set late (V.int 1)).set at_ (V.int 1000000000) = ((ws.set late 1).set at_ 1000000000).map V.int := by
    rw [List.map_set, List.map_set]
    refine List.ext_getElem? fun j => ?_
    by_cases ja : j = at_
    · subst ja
      rw [List.getElem?_set_self (by rw [List.length_set]; omega), List.getElem?_set_self (by rw [List.length_set, List.length_map]; exact al)]
    · rw [List.getElem?_set_ne (Ne.symm ja), List.getElem?_set_ne (Ne.symm ja)]
      by_cases jl : j = late
      · subst jl
        rw [List.getElem?_set_self (by omega), List.getElem?_set_self (by rw [List.length_map]; exact ll)]
      · rw [List.getElem?_set_ne (Ne.symm jl), List.getElem?_set_ne (Ne.symm jl)]
        exact gY j ja jl
  rw [ez]
  have bz : ∀ n, n ∈ (ws.set late 1).set at_ 1000000000 → 1 ≤ n ∧ n ≤ 1000000000 := fun n hn => by
    rcases List.mem_or_eq_of_mem_set hn with hn | rfl
    · rcases List.mem_or_eq_of_mem_set hn with hn | rfl
      · exact bw n hn
      · exact ⟨by decide, by decide⟩
    · exact ⟨by decide, by decide⟩
  have lz : ((ws.set late 1).set at_ 1000000000).length ≤ 12 := by rw [List.length_set, List.length_set]; exact wl
  have hh28 := handPut (o := HO.lst (((ws.set late 1).set at_ 1000000000).map V.int)) hh27 n1 n2
  have eW28 : upd H27 W (HO.lst (((ws.set late 1).set at_ 1000000000).map V.int)) W = some (.lst (((ws.set late 1).set at_ 1000000000).map V.int)) := upd_same
  generalize (ws.set late 1).set at_ 1000000000 = zs at bz lz hh28 eW28 ⊢
  generalize upd H27 W (HO.lst (zs.map V.int)) = H28 at hh28 eW28 ⊢
  subst eR
  simp only [tSeq, tAsg, tDrop, tRet, tRetN, tIfS, tNext, tTest, tB, tNot, tAnd, tOr, tChain, tIf, tAndV, tOrV, tNotV, tOp, tUn, tCB, tCons, tNil, tVar, tC, tCall, tCallS, gName, rI, rI0, rU, rEq, rNe, tTup, tLst, gSub, rSetL, rIxL, rIxT, L2.start, List.map_cons, List.map_nil, List.length_cons, List.length_nil, Nat.reduceAdd, Nat.reduceSub, List.replicate_succ, List.replicate_zero, List.getElem?_cons_zero, List.getElem?_cons_succ, List.set_cons_zero, List.set_cons_succ, Option.some.injEq, exists_eq_left', exists_eq_left, exists_and_left, V.int.injEq, V.bl.injEq, V.ref.injEq, V.str.injEq, List.cons.injEq, and_true, true_and, List.nil_append, List.cons_append, List.append_nil, reduceCtorEq, false_and, exists_false, or_false, false_or, and_false, Int.reduceNeg, decide_eq_true_eq, Bool.not_eq_true', decide_eq_false_iff_not, and_assoc, tYes, ↓reduceIte, wipe, Bool.false_eq_true, Bool.true_eq_false, cxOf, false_implies, true_implies, implies_true, forall_const, rSortedE]
  refine ⟨zs, .inl (SqL.of eW28), fun us p p1 p2 hp => ?_⟩
  have s := Same.new (o := HO.lst (us.map V.int)) hp
  refine ⟨h, q, p, us, rfl, hh28.same s, ⟨upd_same, hh28.off hp, by rw [p1.length_eq]; exact lz, fun n hn => bz n (p1.mem_iff.mp hn)⟩, p2, fun H29 hh29 b29 => ⟨_, rfl, ?_⟩⟩
  rw [if_pos rfl]
  exact ⟨h, q, rfl, hh29, fun H' => k H'⟩
end
end My
set_option Elab.async false
set_option linter.all false
set_option maxRecDepth 100000
set_option maxHeartbeats 8000000
namespace My
open PySem PySem.Spec PyProof.Rows L2 Gen
theorem all_mk {l : PySem.W.OpenLaw} {w : World} {K : PySem.W.Frag} {h : Heap} {mg : Str → Option Value} {fa : Addr}
    {cBadPool cBadPeople cBadPerson cBadAmount : Addr}
    {a1 : Addr} {od1 an1 : Option Addr} {sl1 : Array (Option Value)} {oc1 kV1 dc1 pm1 cd1 ct1 : Value}
    {a2 : Addr} {od2 an2 : Option Addr} {sl2 : Array (Option Value)} {oc2 kV2 dc2 pm2 cd2 ct2 : Value}
    {a3 : Addr} {od3 an3 : Option Addr} {sl3 : Array (Option Value)} {oc3 kV3 dc3 pm3 cd3 ct3 : Value}
    {a4 : Addr} {od4 an4 : Option Addr} {sl4 : Array (Option Value)} {oc4 kV4 dc4 pm4 cd4 ct4 : Value}
    {a5 : Addr} {od5 an5 : Option Addr} {sl5 : Array (Option Value)} {oc5 kV5 dc5 pm5 cd5 ct5 : Value}
    {a6 : Addr} {od6 an6 : Option Addr} {sl6 : Array (Option Value)} {oc6 kV6 dc6 pm6 cd6 ct6 : Value}
    {dT6 : Addr} {dd6 : Option Addr} {dn6 : Nat} {dsl6 : Array (Option Value)} {dt6_0 : Tok}
    {a7 : Addr} {od7 an7 : Option Addr} {sl7 : Array (Option Value)} {oc7 kV7 dc7 pm7 cd7 ct7 : Value}
    {a8 : Addr} {od8 an8 : Option Addr} {sl8 : Array (Option Value)} {oc8 kV8 dc8 pm8 cd8 ct8 : Value}
    {dT8 : Addr} {dd8 : Option Addr} {dn8 : Nat} {dsl8 : Array (Option Value)} {dt8_0 : Tok}
    {a9 : Addr} {od9 an9 : Option Addr} {sl9 : Array (Option Value)} {oc9 kV9 dc9 pm9 cd9 ct9 : Value}
    {a10 : Addr} {od10 an10 : Option Addr} {sl10 : Array (Option Value)} {oc10 kV10 dc10 pm10 cd10 ct10 : Value}
    {a11 : Addr} {od11 an11 : Option Addr} {sl11 : Array (Option Value)} {oc11 kV11 dc11 pm11 cd11 ct11 : Value}
    {a12 : Addr} {od12 an12 : Option Addr} {sl12 : Array (Option Value)} {oc12 kV12 dc12 pm12 cd12 ct12 : Value}
    {a13 : Addr} {od13 an13 : Option Addr} {sl13 : Array (Option Value)} {oc13 kV13 dc13 pm13 cd13 ct13 : Value}
    {a14 : Addr} {od14 an14 : Option Addr} {sl14 : Array (Option Value)} {oc14 kV14 dc14 pm14 cd14 ct14 : Value}
    {a15 : Addr} {od15 an15 : Option Addr} {sl15 : Array (Option Value)} {oc15 kV15 dc15 pm15 cd15 ct15 : Value}
    {a16 : Addr} {od16 an16 : Option Addr} {sl16 : Array (Option Value)} {oc16 kV16 dc16 pm16 cd16 ct16 : Value}
    {a17 : Addr} {od17 an17 : Option Addr} {sl17 : Array (Option Value)} {oc17 kV17 dc17 pm17 cd17 ct17 : Value}
    {a18 : Addr} {od18 an18 : Option Addr} {sl18 : Array (Option Value)} {oc18 kV18 dc18 pm18 cd18 ct18 : Value}
    {a19 : Addr} {od19 an19 : Option Addr} {sl19 : Array (Option Value)} {oc19 kV19 dc19 pm19 cd19 ct19 : Value}
    {a20 : Addr} {od20 an20 : Option Addr} {sl20 : Array (Option Value)} {oc20 kV20 dc20 pm20 cd20 ct20 : Value}
    {a21 : Addr} {od21 an21 : Option Addr} {sl21 : Array (Option Value)} {oc21 kV21 dc21 pm21 cd21 ct21 : Value}
    {a22 : Addr} {od22 an22 : Option Addr} {sl22 : Array (Option Value)} {oc22 kV22 dc22 pm22 cd22 ct22 : Value}
    {a23 : Addr} {od23 an23 : Option Addr} {sl23 : Array (Option Value)} {oc23 kV23 dc23 pm23 cd23 ct23 : Value}
    {a24 : Addr} {od24 an24 : Option Addr} {sl24 : Array (Option Value)} {oc24 kV24 dc24 pm24 cd24 ct24 : Value}
    {a25 : Addr} {od25 an25 : Option Addr} {sl25 : Array (Option Value)} {oc25 kV25 dc25 pm25 cd25 ct25 : Value}
    {a26 : Addr} {od26 an26 : Option Addr} {sl26 : Array (Option Value)} {oc26 kV26 dc26 pm26 cd26 ct26 : Value}
    {a27 : Addr} {od27 an27 : Option Addr} {sl27 : Array (Option Value)} {oc27 kV27 dc27 pm27 cd27 ct27 : Value}
    {a28 : Addr} {od28 an28 : Option Addr} {sl28 : Array (Option Value)} {oc28 kV28 dc28 pm28 cd28 ct28 : Value}
    {a29 : Addr} {od29 an29 : Option Addr} {sl29 : Array (Option Value)} {oc29 kV29 dc29 pm29 cd29 ct29 : Value}
    {a30 : Addr} {od30 an30 : Option Addr} {sl30 : Array (Option Value)} {oc30 kV30 dc30 pm30 cd30 ct30 : Value}
    {a31 : Addr} {od31 an31 : Option Addr} {sl31 : Array (Option Value)} {oc31 kV31 dc31 pm31 cd31 ct31 : Value}
    {tk_MOST_COINS : Tok}
    {tk_GREATEST_COIN : Tok}
    {tk_MOST_PEOPLE : Tok}
    {tk_GREATEST_AMOUNT : Tok}
    {nm_BadPool q_BadPool : Str} {N_BadPool B_BadPool : Addr} {bs_BadPool : List Value} {sn_BadPool : List Str} {sub_BadPool : List Value} {ab_BadPool : Bool} {col_BadPool : Option Bool} {dd_BadPool : Option Addr} {m0_BadPool m1_BadPool m2_BadPool m3_BadPool m5_BadPool : Option Value} (X : K.In h) (G : h.Ns mainGlobals mg) (hfa : mg "law" = some (.ref fa))
    (g_BadPool : PySem.W.nsIn K mainGlobals "BadPool" = some (some (.ref cBadPool)))
    (g_BadPeople : PySem.W.nsIn K mainGlobals "BadPeople" = some (some (.ref cBadPeople)))
    (g_BadPerson : PySem.W.nsIn K mainGlobals "BadPerson" = some (some (.ref cBadPerson)))
    (g_BadAmount : PySem.W.nsIn K mainGlobals "BadAmount" = some (some (.ref cBadAmount)))
    (a_i_BadPool : PySem.W.findIn K (.ref cBadPool) "__init__" = some (some (.ref a1)))
    (l_i_BadPool : K.lookup a1 = some ⟨oc1, od1, .func (PySem.W.fnOf "__init__" "BadPool.__init__" (defArgs s_i_BadPool) (defBody s_i_BadPool) (defScope s_i_BadPool) .none kV1 dc1 pm1 an1 cd1 ct1), sl1⟩)
    (c_i_BadPool : PySem.W.codeIn K cd1 "BadPool.__init__" = true)
    (k_i_BadPool : PySem.W.keepIn K (.ref a1) = true)
    (t_i_BadPool : PySem.W.typeIn K (.ref a1) = some (.type "function"))
    (a_is_number : PySem.W.nsIn K mainGlobals "is_number" = some (some (.ref a2)))
    (l_is_number : K.lookup a2 = some ⟨oc2, od2, .func (PySem.W.fnOf "is_number" "is_number" (defArgs s_is_number) (defBody s_is_number) (defScope s_is_number) .none kV2 dc2 pm2 an2 cd2 ct2), sl2⟩)
    (c_is_number : PySem.W.codeIn K cd2 "is_number" = true)
    (k_is_number : PySem.W.keepIn K (.ref a2) = true)
    (a_is_whole : PySem.W.nsIn K mainGlobals "is_whole" = some (some (.ref a3)))
    (l_is_whole : K.lookup a3 = some ⟨oc3, od3, .func (PySem.W.fnOf "is_whole" "is_whole" (defArgs s_is_whole) (defBody s_is_whole) (defScope s_is_whole) .none kV3 dc3 pm3 an3 cd3 ct3), sl3⟩)
    (c_is_whole : PySem.W.codeIn K cd3 "is_whole" = true)
    (k_is_whole : PySem.W.keepIn K (.ref a3) = true)
    (a_is_row : PySem.W.nsIn K mainGlobals "is_row" = some (some (.ref a4)))
    (l_is_row : K.lookup a4 = some ⟨oc4, od4, .func (PySem.W.fnOf "is_row" "is_row" (defArgs s_is_row) (defBody s_is_row) (defScope s_is_row) .none kV4 dc4 pm4 an4 cd4 ct4), sl4⟩)
    (c_is_row : PySem.W.codeIn K cd4 "is_row" = true)
    (k_is_row : PySem.W.keepIn K (.ref a4) = true)
    (a_check_pool : PySem.W.nsIn K mainGlobals "check_pool" = some (some (.ref a5)))
    (l_check_pool : K.lookup a5 = some ⟨oc5, od5, .func (PySem.W.fnOf "check_pool" "check_pool" (defArgs s_check_pool) (defBody s_check_pool) (defScope s_check_pool) .none kV5 dc5 pm5 an5 cd5 ct5), sl5⟩)
    (c_check_pool : PySem.W.codeIn K cd5 "check_pool" = true)
    (k_check_pool : PySem.W.keepIn K (.ref a5) = true)
    (a_check_people : PySem.W.nsIn K mainGlobals "check_people" = some (some (.ref a6)))
    (l_check_people : K.lookup a6 = some ⟨oc6, od6, .func (PySem.W.fnOf "check_people" "check_people" (defArgs s_check_people) (defBody s_check_people) (defScope s_check_people) (.ref dT6) kV6 dc6 pm6 an6 cd6 ct6), sl6⟩)
    (t_check_people : K.lookup dT6 = some ⟨.type "tuple", dd6, .seq #[.int 1 dt6_0] dn6, dsl6⟩)
    (c_check_people : PySem.W.codeIn K cd6 "check_people" = true)
    (k_check_people : PySem.W.keepIn K (.ref a6) = true)
    (a_check_person : PySem.W.nsIn K mainGlobals "check_person" = some (some (.ref a7)))
    (l_check_person : K.lookup a7 = some ⟨oc7, od7, .func (PySem.W.fnOf "check_person" "check_person" (defArgs s_check_person) (defBody s_check_person) (defScope s_check_person) .none kV7 dc7 pm7 an7 cd7 ct7), sl7⟩)
    (c_check_person : PySem.W.codeIn K cd7 "check_person" = true)
    (k_check_person : PySem.W.keepIn K (.ref a7) = true)
    (a_check_amount : PySem.W.nsIn K mainGlobals "check_amount" = some (some (.ref a8)))
    (l_check_amount : K.lookup a8 = some ⟨oc8, od8, .func (PySem.W.fnOf "check_amount" "check_amount" (defArgs s_check_amount) (defBody s_check_amount) (defScope s_check_amount) (.ref dT8) kV8 dc8 pm8 an8 cd8 ct8), sl8⟩)
    (t_check_amount : K.lookup dT8 = some ⟨.type "tuple", dd8, .seq #[.int 0 dt8_0] dn8, dsl8⟩)
    (c_check_amount : PySem.W.codeIn K cd8 "check_amount" = true)
    (k_check_amount : PySem.W.keepIn K (.ref a8) = true)
    (a_total_of : PySem.W.nsIn K mainGlobals "total_of" = some (some (.ref a9)))
    (l_total_of : K.lookup a9 = some ⟨oc9, od9, .func (PySem.W.fnOf "total_of" "total_of" (defArgs s_total_of) (defBody s_total_of) (defScope s_total_of) .none kV9 dc9 pm9 an9 cd9 ct9), sl9⟩)
    (c_total_of : PySem.W.codeIn K cd9 "total_of" = true)
    (k_total_of : PySem.W.keepIn K (.ref a9) = true)
    (a_counted_coins : PySem.W.nsIn K mainGlobals "counted_coins" = some (some (.ref a10)))
    (l_counted_coins : K.lookup a10 = some ⟨oc10, od10, .func (PySem.W.fnOf "counted_coins" "counted_coins" (defArgs s_counted_coins) (defBody s_counted_coins) (defScope s_counted_coins) .none kV10 dc10 pm10 an10 cd10 ct10), sl10⟩)
    (c_counted_coins : PySem.W.codeIn K cd10 "counted_coins" = true)
    (k_counted_coins : PySem.W.keepIn K (.ref a10) = true)
    (a_counted : PySem.W.nsIn K mainGlobals "counted" = some (some (.ref a11)))
    (l_counted : K.lookup a11 = some ⟨oc11, od11, .func (PySem.W.fnOf "counted" "counted" (defArgs s_counted) (defBody s_counted) (defScope s_counted) .none kV11 dc11 pm11 an11 cd11 ct11), sl11⟩)
    (c_counted : PySem.W.codeIn K cd11 "counted" = true)
    (k_counted : PySem.W.keepIn K (.ref a11) = true)
    (a_l_mix : PySem.W.nsIn K mainGlobals "_law_mix" = some (some (.ref a12)))
    (l_l_mix : K.lookup a12 = some ⟨oc12, od12, .func (PySem.W.fnOf "_law_mix" "_law_mix" (defArgs s_l_mix) (defBody s_l_mix) (defScope s_l_mix) .none kV12 dc12 pm12 an12 cd12 ct12), sl12⟩)
    (c_l_mix : PySem.W.codeIn K cd12 "_law_mix" = true)
    (k_l_mix : PySem.W.keepIn K (.ref a12) = true)
    (a_l_hand : PySem.W.nsIn K mainGlobals "_law_hand" = some (some (.ref a13)))
    (l_l_hand : K.lookup a13 = some ⟨oc13, od13, .func (PySem.W.fnOf "_law_hand" "_law_hand" (defArgs s_l_hand) (defBody s_l_hand) (defScope s_l_hand) .none kV13 dc13 pm13 an13 cd13 ct13), sl13⟩)
    (c_l_hand : PySem.W.codeIn K cd13 "_law_hand" = true)
    (k_l_hand : PySem.W.keepIn K (.ref a13) = true)
    (a_l_draw : PySem.W.nsIn K mainGlobals "_law_draw" = some (some (.ref a14)))
    (l_l_draw : K.lookup a14 = some ⟨oc14, od14, .func (PySem.W.fnOf "_law_draw" "_law_draw" (defArgs s_l_draw) (defBody s_l_draw) (defScope s_l_draw) .none kV14 dc14 pm14 an14 cd14 ct14), sl14⟩)
    (c_l_draw : PySem.W.codeIn K cd14 "_law_draw" = true)
    (k_l_draw : PySem.W.keepIn K (.ref a14) = true)
    (a_l_big : PySem.W.nsIn K mainGlobals "_law_big" = some (some (.ref a15)))
    (l_l_big : K.lookup a15 = some ⟨oc15, od15, .func (PySem.W.fnOf "_law_big" "_law_big" (defArgs s_l_big) (defBody s_l_big) (defScope s_l_big) .none kV15 dc15 pm15 an15 cd15 ct15), sl15⟩)
    (c_l_big : PySem.W.codeIn K cd15 "_law_big" = true)
    (k_l_big : PySem.W.keepIn K (.ref a15) = true)
    (a_l_whole : PySem.W.nsIn K mainGlobals "_law_whole" = some (some (.ref a16)))
    (l_l_whole : K.lookup a16 = some ⟨oc16, od16, .func (PySem.W.fnOf "_law_whole" "_law_whole" (defArgs s_l_whole) (defBody s_l_whole) (defScope s_l_whole) .none kV16 dc16 pm16 an16 cd16 ct16), sl16⟩)
    (c_l_whole : PySem.W.codeIn K cd16 "_law_whole" = true)
    (k_l_whole : PySem.W.keepIn K (.ref a16) = true)
    (a_l_lot_like : PySem.W.nsIn K mainGlobals "_law_lot_like" = some (some (.ref a17)))
    (l_l_lot_like : K.lookup a17 = some ⟨oc17, od17, .func (PySem.W.fnOf "_law_lot_like" "_law_lot_like" (defArgs s_l_lot_like) (defBody s_l_lot_like) (defScope s_l_lot_like) .none kV17 dc17 pm17 an17 cd17 ct17), sl17⟩)
    (c_l_lot_like : PySem.W.codeIn K cd17 "_law_lot_like" = true)
    (k_l_lot_like : PySem.W.keepIn K (.ref a17) = true)
    (a_l_row_like : PySem.W.nsIn K mainGlobals "_law_row_like" = some (some (.ref a18)))
    (l_l_row_like : K.lookup a18 = some ⟨oc18, od18, .func (PySem.W.fnOf "_law_row_like" "_law_row_like" (defArgs s_l_row_like) (defBody s_l_row_like) (defScope s_l_row_like) .none kV18 dc18 pm18 an18 cd18 ct18), sl18⟩)
    (c_l_row_like : PySem.W.codeIn K cd18 "_law_row_like" = true)
    (k_l_row_like : PySem.W.keepIn K (.ref a18) = true)
    (a_l_serving : PySem.W.nsIn K mainGlobals "_law_serving" = some (some (.ref a19)))
    (l_l_serving : K.lookup a19 = some ⟨oc19, od19, .func (PySem.W.fnOf "_law_serving" "_law_serving" (defArgs s_l_serving) (defBody s_l_serving) (defScope s_l_serving) .none kV19 dc19 pm19 an19 cd19 ct19), sl19⟩)
    (c_l_serving : PySem.W.codeIn K cd19 "_law_serving" = true)
    (k_l_serving : PySem.W.keepIn K (.ref a19) = true)
    (a_l_pool : PySem.W.nsIn K mainGlobals "_law_pool" = some (some (.ref a20)))
    (l_l_pool : K.lookup a20 = some ⟨oc20, od20, .func (PySem.W.fnOf "_law_pool" "_law_pool" (defArgs s_l_pool) (defBody s_l_pool) (defScope s_l_pool) .none kV20 dc20 pm20 an20 cd20 ct20), sl20⟩)
    (c_l_pool : PySem.W.codeIn K cd20 "_law_pool" = true)
    (k_l_pool : PySem.W.keepIn K (.ref a20) = true)
    (a_l_great : PySem.W.nsIn K mainGlobals "_law_great" = some (some (.ref a21)))
    (l_l_great : K.lookup a21 = some ⟨oc21, od21, .func (PySem.W.fnOf "_law_great" "_law_great" (defArgs s_l_great) (defBody s_l_great) (defScope s_l_great) .none kV21 dc21 pm21 an21 cd21 ct21), sl21⟩)
    (c_l_great : PySem.W.codeIn K cd21 "_law_great" = true)
    (k_l_great : PySem.W.keepIn K (.ref a21) = true)
    (a_l_turned : PySem.W.nsIn K mainGlobals "_law_turned" = some (some (.ref a22)))
    (l_l_turned : K.lookup a22 = some ⟨oc22, od22, .func (PySem.W.fnOf "_law_turned" "_law_turned" (defArgs s_l_turned) (defBody s_l_turned) (defScope s_l_turned) .none kV22 dc22 pm22 an22 cd22 ct22), sl22⟩)
    (c_l_turned : PySem.W.codeIn K cd22 "_law_turned" = true)
    (k_l_turned : PySem.W.keepIn K (.ref a22) = true)
    (a_l_odd : PySem.W.nsIn K mainGlobals "_law_odd" = some (some (.ref a23)))
    (l_l_odd : K.lookup a23 = some ⟨oc23, od23, .func (PySem.W.fnOf "_law_odd" "_law_odd" (defArgs s_l_odd) (defBody s_l_odd) (defScope s_l_odd) .none kV23 dc23 pm23 an23 cd23 ct23), sl23⟩)
    (c_l_odd : PySem.W.codeIn K cd23 "_law_odd" = true)
    (k_l_odd : PySem.W.keepIn K (.ref a23) = true)
    (a_l_odd_coin : PySem.W.nsIn K mainGlobals "_law_odd_coin" = some (some (.ref a24)))
    (l_l_odd_coin : K.lookup a24 = some ⟨oc24, od24, .func (PySem.W.fnOf "_law_odd_coin" "_law_odd_coin" (defArgs s_l_odd_coin) (defBody s_l_odd_coin) (defScope s_l_odd_coin) .none kV24 dc24 pm24 an24 cd24 ct24), sl24⟩)
    (c_l_odd_coin : PySem.W.codeIn K cd24 "_law_odd_coin" = true)
    (k_l_odd_coin : PySem.W.keepIn K (.ref a24) = true)
    (a_l_refused : PySem.W.nsIn K mainGlobals "_law_refused" = some (some (.ref a25)))
    (l_l_refused : K.lookup a25 = some ⟨oc25, od25, .func (PySem.W.fnOf "_law_refused" "_law_refused" (defArgs s_l_refused) (defBody s_l_refused) (defScope s_l_refused) .none kV25 dc25 pm25 an25 cd25 ct25), sl25⟩)
    (c_l_refused : PySem.W.codeIn K cd25 "_law_refused" = true)
    (k_l_refused : PySem.W.keepIn K (.ref a25) = true)
    (a_l_people : PySem.W.nsIn K mainGlobals "_law_people" = some (some (.ref a26)))
    (l_l_people : K.lookup a26 = some ⟨oc26, od26, .func (PySem.W.fnOf "_law_people" "_law_people" (defArgs s_l_people) (defBody s_l_people) (defScope s_l_people) .none kV26 dc26 pm26 an26 cd26 ct26), sl26⟩)
    (c_l_people : PySem.W.codeIn K cd26 "_law_people" = true)
    (k_l_people : PySem.W.keepIn K (.ref a26) = true)
    (a_l_person : PySem.W.nsIn K mainGlobals "_law_person" = some (some (.ref a27)))
    (l_l_person : K.lookup a27 = some ⟨oc27, od27, .func (PySem.W.fnOf "_law_person" "_law_person" (defArgs s_l_person) (defBody s_l_person) (defScope s_l_person) .none kV27 dc27 pm27 an27 cd27 ct27), sl27⟩)
    (c_l_person : PySem.W.codeIn K cd27 "_law_person" = true)
    (k_l_person : PySem.W.keepIn K (.ref a27) = true)
    (a_l_amount : PySem.W.nsIn K mainGlobals "_law_amount" = some (some (.ref a28)))
    (l_l_amount : K.lookup a28 = some ⟨oc28, od28, .func (PySem.W.fnOf "_law_amount" "_law_amount" (defArgs s_l_amount) (defBody s_l_amount) (defScope s_l_amount) .none kV28 dc28 pm28 an28 cd28 ct28), sl28⟩)
    (c_l_amount : PySem.W.codeIn K cd28 "_law_amount" = true)
    (k_l_amount : PySem.W.keepIn K (.ref a28) = true)
    (a_l_good : PySem.W.nsIn K mainGlobals "_law_good" = some (some (.ref a29)))
    (l_l_good : K.lookup a29 = some ⟨oc29, od29, .func (PySem.W.fnOf "_law_good" "_law_good" (defArgs s_l_good) (defBody s_l_good) (defScope s_l_good) .none kV29 dc29 pm29 an29 cd29 ct29), sl29⟩)
    (c_l_good : PySem.W.codeIn K cd29 "_law_good" = true)
    (k_l_good : PySem.W.keepIn K (.ref a29) = true)
    (a_l_numbers : PySem.W.nsIn K mainGlobals "_law_numbers" = some (some (.ref a30)))
    (l_l_numbers : K.lookup a30 = some ⟨oc30, od30, .func (PySem.W.fnOf "_law_numbers" "_law_numbers" (defArgs s_l_numbers) (defBody s_l_numbers) (defScope s_l_numbers) .none kV30 dc30 pm30 an30 cd30 ct30), sl30⟩)
    (c_l_numbers : PySem.W.codeIn K cd30 "_law_numbers" = true)
    (k_l_numbers : PySem.W.keepIn K (.ref a30) = true)
    (a_law : PySem.W.nsIn K mainGlobals "law" = some (some (.ref a31)))
    (l_law : K.lookup a31 = some ⟨oc31, od31, .func (PySem.W.fnOf "law" "law" (defArgs s_law) (defBody s_law) (defScope s_law) .none kV31 dc31 pm31 an31 cd31 ct31), sl31⟩)
    (c_law : PySem.W.codeIn K cd31 "law" = true)
    (k_law : PySem.W.keepIn K (.ref a31) = true)
    (v_MOST_COINS : PySem.W.nsIn K mainGlobals "MOST_COINS" = some (some (.int 12 tk_MOST_COINS)))
    (v_GREATEST_COIN : PySem.W.nsIn K mainGlobals "GREATEST_COIN" = some (some (.int 1000000000 tk_GREATEST_COIN)))
    (v_MOST_PEOPLE : PySem.W.nsIn K mainGlobals "MOST_PEOPLE" = some (some (.int 5 tk_MOST_PEOPLE)))
    (v_GREATEST_AMOUNT : PySem.W.nsIn K mainGlobals "GREATEST_AMOUNT" = some (some (.int 12000000000 tk_GREATEST_AMOUNT)))
    (n_isinstance : PySem.W.nsIn K mainGlobals "isinstance" = some none)
    (n_int : PySem.W.nsIn K mainGlobals "int" = some none)
    (n_bool : PySem.W.nsIn K mainGlobals "bool" = some none)
    (n_list : PySem.W.nsIn K mainGlobals "list" = some none)
    (n_tuple : PySem.W.nsIn K mainGlobals "tuple" = some none)
    (n_len : PySem.W.nsIn K mainGlobals "len" = some none)
    (n_enumerate : PySem.W.nsIn K mainGlobals "enumerate" = some none)
    (n_sorted : PySem.W.nsIn K mainGlobals "sorted" = some none)
    (n_sum : PySem.W.nsIn K mainGlobals "sum" = some none)
    (n_set : PySem.W.nsIn K mainGlobals "set" = some none)
    (n_abs : PySem.W.nsIn K mainGlobals "abs" = some none)
    (n_range : PySem.W.nsIn K mainGlobals "range" = some none)
    (n_all : PySem.W.nsIn K mainGlobals "all" = some none)
    (n_max : PySem.W.nsIn K mainGlobals "max" = some none)
    (n_min : PySem.W.nsIn K mainGlobals "min" = some none)
    (k_BadPool : PySem.W.keepIn K (.ref cBadPool) = true)
    (e_BadPool : PySem.W.subIn K (.ref cBadPool) (.type "BaseException") = some true)
    (t_BadPool : PySem.W.typeIn K (.ref cBadPool) = some (.type "type"))
    (i_BadPool : PySem.W.isClsIn K cBadPool = true)
    (x_BadPool : K.lookup cBadPool = some (excClassObj nm_BadPool q_BadPool cBadPool N_BadPool bs_BadPool [.ref B_BadPool, .type "ValueError", .type "Exception", .type "BaseException", .type "object"] true sn_BadPool sub_BadPool ab_BadPool col_BadPool dd_BadPool m0_BadPool m1_BadPool m2_BadPool m3_BadPool m5_BadPool "ValueError.__new__"))
    (s_BadPool : PySem.W.findIn K (.ref cBadPool) "__setattr__" = some (some (.builtin "object.__setattr__")))
    (ga_BadPool : PySem.W.findIn K (.ref cBadPool) "__getattribute__" = some (some (.builtin "BaseException.__getattribute__")))
    (gg_BadPool : PySem.W.findIn K (.ref cBadPool) "__getattr__" = some none)
    (hd_BadPool : PySem.W.hasDictIn K cBadPool = true)
    (f_BadPool_place : PySem.W.findIn K (.ref cBadPool) "place" = some none)
    (f_BadPool_what : PySem.W.findIn K (.ref cBadPool) "what" = some none)
    (k_BadPeople : PySem.W.keepIn K (.ref cBadPeople) = true)
    (e_BadPeople : PySem.W.subIn K (.ref cBadPeople) (.type "BaseException") = some true)
    (t_BadPeople : PySem.W.typeIn K (.ref cBadPeople) = some (.type "type"))
    (i_BadPeople : PySem.W.isClsIn K cBadPeople = true)
    (x_BadPeople : PySem.W.excIn K cBadPeople [.type "ValueError", .type "Exception", .type "BaseException", .type "object"] "ValueError.__new__" = true)
    (k_BadPerson : PySem.W.keepIn K (.ref cBadPerson) = true)
    (e_BadPerson : PySem.W.subIn K (.ref cBadPerson) (.type "BaseException") = some true)
    (t_BadPerson : PySem.W.typeIn K (.ref cBadPerson) = some (.type "type"))
    (i_BadPerson : PySem.W.isClsIn K cBadPerson = true)
    (x_BadPerson : PySem.W.excIn K cBadPerson [.type "ValueError", .type "Exception", .type "BaseException", .type "object"] "ValueError.__new__" = true)
    (k_BadAmount : PySem.W.keepIn K (.ref cBadAmount) = true)
    (e_BadAmount : PySem.W.subIn K (.ref cBadAmount) (.type "BaseException") = some true)
    (t_BadAmount : PySem.W.typeIn K (.ref cBadAmount) = some (.type "type"))
    (i_BadAmount : PySem.W.isClsIn K cBadAmount = true)
    (x_BadAmount : PySem.W.excIn K cBadAmount [.type "ValueError", .type "Exception", .type "BaseException", .type "object"] "ValueError.__new__" = true)
    (m_BadPool_BadPool : PySem.W.subIn K (.ref cBadPool) (.ref cBadPool) = some true)
    (m_BadPool_BadPeople : PySem.W.subIn K (.ref cBadPool) (.ref cBadPeople) = some false)
    (m_BadPool_BadPerson : PySem.W.subIn K (.ref cBadPool) (.ref cBadPerson) = some false)
    (m_BadPool_BadAmount : PySem.W.subIn K (.ref cBadPool) (.ref cBadAmount) = some false)
    (m_BadPeople_BadPool : PySem.W.subIn K (.ref cBadPeople) (.ref cBadPool) = some false)
    (m_BadPeople_BadPeople : PySem.W.subIn K (.ref cBadPeople) (.ref cBadPeople) = some true)
    (m_BadPeople_BadPerson : PySem.W.subIn K (.ref cBadPeople) (.ref cBadPerson) = some false)
    (m_BadPeople_BadAmount : PySem.W.subIn K (.ref cBadPeople) (.ref cBadAmount) = some false)
    (m_BadPerson_BadPool : PySem.W.subIn K (.ref cBadPerson) (.ref cBadPool) = some false)
    (m_BadPerson_BadPeople : PySem.W.subIn K (.ref cBadPerson) (.ref cBadPeople) = some false)
    (m_BadPerson_BadPerson : PySem.W.subIn K (.ref cBadPerson) (.ref cBadPerson) = some true)
    (m_BadPerson_BadAmount : PySem.W.subIn K (.ref cBadPerson) (.ref cBadAmount) = some false)
    (m_BadAmount_BadPool : PySem.W.subIn K (.ref cBadAmount) (.ref cBadPool) = some false)
    (m_BadAmount_BadPeople : PySem.W.subIn K (.ref cBadAmount) (.ref cBadPeople) = some false)
    (m_BadAmount_BadPerson : PySem.W.subIn K (.ref cBadAmount) (.ref cBadPerson) = some false)
    (m_BadAmount_BadAmount : PySem.W.subIn K (.ref cBadAmount) (.ref cBadAmount) = some true) :
    ∃ fd : FuncData, (∀ (s : Shared) (v : Value), BindsTo s fd ⟨[v], []⟩ [("_law_script", v)]) ∧ ∀ base : Heap, K.In base → base.Ns mainGlobals mg → FnOk l.prog w K mg base CX0 6 fa fd ["_law_script"] (sp_law K) := by
  have e := hfa.symm.trans (PySem.W.mg_of X G a_law)
  cases e
  have F1 := fun_mk (st := s_i_BadPool) l_i_BadPool c_i_BadPool k_i_BadPool
  have b1 := F1.binds (ps := ps_i_BadPool) fun _ _ _ _ _ _ us hl => match us, hl with | [_, _, _], _ => rfl
  have F2 := fun_mk (st := s_is_number) l_is_number c_is_number k_is_number
  have b2 := F2.binds (ps := ps_is_number) fun _ _ _ _ _ _ us hl => match us, hl with | [_], _ => rfl
  have F3 := fun_mk (st := s_is_whole) l_is_whole c_is_whole k_is_whole
  have b3 := F3.binds (ps := ps_is_whole) fun _ _ _ _ _ _ us hl => match us, hl with | [_, _, _], _ => rfl
  have F4 := fun_mk (st := s_is_row) l_is_row c_is_row k_is_row
  have b4 := F4.binds (ps := ps_is_row) fun _ _ _ _ _ _ us hl => match us, hl with | [_, _, _], _ => rfl
  have F5 := fun_mk (st := s_check_pool) l_check_pool c_check_pool k_check_pool
  have b5 := F5.binds (ps := ps_check_pool) fun _ _ _ _ _ _ us hl => match us, hl with | [_], _ => rfl
  have F6 : FunD K "check_people" "check_people" (defArgs s_check_people) (defBody s_check_people) (defScope s_check_people) [(V.int 1)] [] a6 _ := ⟨⟨_, _, _, _, _, _, _, _, _, _, rfl, l_check_people, c_check_people, .inr ⟨(fun z => nomatch z), _, _, _, _, rfl, t_check_people, rfl, (Paired.cons ⟨_, rfl⟩ Paired.nil)⟩, .inl rfl⟩, k_check_people⟩
  obtain ⟨ds6, vs6, b6⟩ := F6.binds1 (ps := ps_check_people) 2 1 (fun z => nomatch z) rfl fun _ _ _ _ _ _ _ us its h1 h2 => match us, its, h1, h2 with | [_, _], [_], _, _ => ⟨_, rfl, rfl⟩
  cases vs6
  obtain ⟨es6, ws6, c6⟩ := F6.binds1 (ps := ps_check_people) 1 0 (fun z => nomatch z) rfl fun _ _ _ _ _ _ _ us its h1 h2 => match us, its, h1, h2 with | [_], [_], _, _ => ⟨_, rfl, rfl⟩
  have F7 := fun_mk (st := s_check_person) l_check_person c_check_person k_check_person
  have b7 := F7.binds (ps := ps_check_person) fun _ _ _ _ _ _ us hl => match us, hl with | [_, _], _ => rfl
  have F8 : FunD K "check_amount" "check_amount" (defArgs s_check_amount) (defBody s_check_amount) (defScope s_check_amount) [(V.int 0)] [] a8 _ := ⟨⟨_, _, _, _, _, _, _, _, _, _, rfl, l_check_amount, c_check_amount, .inr ⟨(fun z => nomatch z), _, _, _, _, rfl, t_check_amount, rfl, (Paired.cons ⟨_, rfl⟩ Paired.nil)⟩, .inl rfl⟩, k_check_amount⟩
  obtain ⟨ds8, vs8, b8⟩ := F8.binds1 (ps := ps_check_amount) 2 1 (fun z => nomatch z) rfl fun _ _ _ _ _ _ _ us its h1 h2 => match us, its, h1, h2 with | [_, _], [_], _, _ => ⟨_, rfl, rfl⟩
  cases vs8
  obtain ⟨es8, ws8, c8⟩ := F8.binds1 (ps := ps_check_amount) 1 0 (fun z => nomatch z) rfl fun _ _ _ _ _ _ _ us its h1 h2 => match us, its, h1, h2 with | [_], [_], _, _ => ⟨_, rfl, rfl⟩
  have F9 := fun_mk (st := s_total_of) l_total_of c_total_of k_total_of
  have b9 := F9.binds (ps := ps_total_of) fun _ _ _ _ _ _ us hl => match us, hl with | [_], _ => rfl
  have F10 := fun_mk (st := s_counted_coins) l_counted_coins c_counted_coins k_counted_coins
  have b10 := F10.binds (ps := ps_counted_coins) fun _ _ _ _ _ _ us hl => match us, hl with | [_], _ => rfl
  have F11 := fun_mk (st := s_counted) l_counted c_counted k_counted
  have b11 := F11.binds (ps := ps_counted) fun _ _ _ _ _ _ us hl => match us, hl with | [_], _ => rfl
  have F12 := fun_mk (st := s_l_mix) l_l_mix c_l_mix k_l_mix
  have b12 := F12.binds (ps := ps_l_mix) fun _ _ _ _ _ _ us hl => match us, hl with | [_, _], _ => rfl
  have F13 := fun_mk (st := s_l_hand) l_l_hand c_l_hand k_l_hand
  have b13 := F13.binds (ps := ps_l_hand) fun _ _ _ _ _ _ us hl => match us, hl with | [_], _ => rfl
  have F14 := fun_mk (st := s_l_draw) l_l_draw c_l_draw k_l_draw
  have b14 := F14.binds (ps := ps_l_draw) fun _ _ _ _ _ _ us hl => match us, hl with | [_, _], _ => rfl
  have F15 := fun_mk (st := s_l_big) l_l_big c_l_big k_l_big
  have b15 := F15.binds (ps := ps_l_big) fun _ _ _ _ _ _ us hl => match us, hl with | [_, _], _ => rfl
  have F16 := fun_mk (st := s_l_whole) l_l_whole c_l_whole k_l_whole
  have b16 := F16.binds (ps := ps_l_whole) fun _ _ _ _ _ _ us hl => match us, hl with | [_], _ => rfl
  have F17 := fun_mk (st := s_l_lot_like) l_l_lot_like c_l_lot_like k_l_lot_like
  have b17 := F17.binds (ps := ps_l_lot_like) fun _ _ _ _ _ _ us hl => match us, hl with | [_], _ => rfl
  have F18 := fun_mk (st := s_l_row_like) l_l_row_like c_l_row_like k_l_row_like
  have b18 := F18.binds (ps := ps_l_row_like) fun _ _ _ _ _ _ us hl => match us, hl with | [_], _ => rfl
  have F19 := fun_mk (st := s_l_serving) l_l_serving c_l_serving k_l_serving
  have b19 := F19.binds (ps := ps_l_serving) fun _ _ _ _ _ _ us hl => match us, hl with | [_, _, _], _ => rfl
  have F20 := fun_mk (st := s_l_pool) l_l_pool c_l_pool k_l_pool
  have b20 := F20.binds (ps := ps_l_pool) fun _ _ _ _ _ _ us hl => match us, hl with | [_, _, _], _ => rfl
  have F21 := fun_mk (st := s_l_great) l_l_great c_l_great k_l_great
  have b21 := F21.binds (ps := ps_l_great) fun _ _ _ _ _ _ us hl => match us, hl with | [_, _], _ => rfl
  have F22 := fun_mk (st := s_l_turned) l_l_turned c_l_turned k_l_turned
  have b22 := F22.binds (ps := ps_l_turned) fun _ _ _ _ _ _ us hl => match us, hl with | [_, _], _ => rfl
  have F23 := fun_mk (st := s_l_odd) l_l_odd c_l_odd k_l_odd
  have b23 := F23.binds (ps := ps_l_odd) fun _ _ _ _ _ _ us hl => match us, hl with | [_], _ => rfl
  have F24 := fun_mk (st := s_l_odd_coin) l_l_odd_coin c_l_odd_coin k_l_odd_coin
  have b24 := F24.binds (ps := ps_l_odd_coin) fun _ _ _ _ _ _ us hl => match us, hl with | [_], _ => rfl
  have F25 := fun_mk (st := s_l_refused) l_l_refused c_l_refused k_l_refused
  have b25 := F25.binds (ps := ps_l_refused) fun _ _ _ _ _ _ us hl => match us, hl with | [_, _], _ => rfl
  have F26 := fun_mk (st := s_l_people) l_l_people c_l_people k_l_people
  have b26 := F26.binds (ps := ps_l_people) fun _ _ _ _ _ _ us hl => match us, hl with | [_, _], _ => rfl
  have F27 := fun_mk (st := s_l_person) l_l_person c_l_person k_l_person
  have b27 := F27.binds (ps := ps_l_person) fun _ _ _ _ _ _ us hl => match us, hl with | [_, _], _ => rfl
  have F28 := fun_mk (st := s_l_amount) l_l_amount c_l_amount k_l_amount
  have b28 := F28.binds (ps := ps_l_amount) fun _ _ _ _ _ _ us hl => match us, hl with | [_, _], _ => rfl
  have F29 := fun_mk (st := s_l_good) l_l_good c_l_good k_l_good
  have b29 := F29.binds (ps := ps_l_good) fun _ _ _ _ _ _ us hl => match us, hl with | [_, _], _ => rfl
  have F30 := fun_mk (st := s_l_numbers) l_l_numbers c_l_numbers k_l_numbers
  have b30 := F30.binds (ps := ps_l_numbers) fun _ _ _ _ _ _ us hl => match us, hl with | [_], _ => rfl
  have F31 := fun_mk (st := s_law) l_law c_law k_law
  have b31 := F31.binds (ps := ps_law) fun _ _ _ _ _ _ us hl => match us, hl with | [_], _ => rfl
  have T : Txt K mg cBadPool cBadPeople cBadPerson cBadAmount :=
    { d_is_number := ⟨_, _, F2, PySem.W.mg_of X G a_is_number, b2⟩,
      d_is_whole := ⟨_, _, F3, PySem.W.mg_of X G a_is_whole, b3⟩,
      d_is_row := ⟨_, _, F4, PySem.W.mg_of X G a_is_row, b4⟩,
      d_check_pool := ⟨_, _, F5, PySem.W.mg_of X G a_check_pool, b5⟩,
      d_check_people := ⟨_, _, F6, PySem.W.mg_of X G a_check_people, b6, es6, ws6, c6⟩,
      d_check_person := ⟨_, _, F7, PySem.W.mg_of X G a_check_person, b7⟩,
      d_check_amount := ⟨_, _, F8, PySem.W.mg_of X G a_check_amount, b8, es8, ws8, c8⟩,
      d_total_of := ⟨_, _, F9, PySem.W.mg_of X G a_total_of, b9⟩,
      d_counted_coins := ⟨_, _, F10, PySem.W.mg_of X G a_counted_coins, b10⟩,
      d_counted := ⟨_, _, F11, PySem.W.mg_of X G a_counted, b11⟩,
      d_l_mix := ⟨_, _, F12, PySem.W.mg_of X G a_l_mix, b12⟩,
      d_l_hand := ⟨_, _, F13, PySem.W.mg_of X G a_l_hand, b13⟩,
      d_l_draw := ⟨_, _, F14, PySem.W.mg_of X G a_l_draw, b14⟩,
      d_l_big := ⟨_, _, F15, PySem.W.mg_of X G a_l_big, b15⟩,
      d_l_whole := ⟨_, _, F16, PySem.W.mg_of X G a_l_whole, b16⟩,
      d_l_lot_like := ⟨_, _, F17, PySem.W.mg_of X G a_l_lot_like, b17⟩,
      d_l_row_like := ⟨_, _, F18, PySem.W.mg_of X G a_l_row_like, b18⟩,
      d_l_serving := ⟨_, _, F19, PySem.W.mg_of X G a_l_serving, b19⟩,
      d_l_pool := ⟨_, _, F20, PySem.W.mg_of X G a_l_pool, b20⟩,
      d_l_great := ⟨_, _, F21, PySem.W.mg_of X G a_l_great, b21⟩,
      d_l_turned := ⟨_, _, F22, PySem.W.mg_of X G a_l_turned, b22⟩,
      d_l_odd := ⟨_, _, F23, PySem.W.mg_of X G a_l_odd, b23⟩,
      d_l_odd_coin := ⟨_, _, F24, PySem.W.mg_of X G a_l_odd_coin, b24⟩,
      d_l_refused := ⟨_, _, F25, PySem.W.mg_of X G a_l_refused, b25⟩,
      d_l_people := ⟨_, _, F26, PySem.W.mg_of X G a_l_people, b26⟩,
      d_l_person := ⟨_, _, F27, PySem.W.mg_of X G a_l_person, b27⟩,
      d_l_amount := ⟨_, _, F28, PySem.W.mg_of X G a_l_amount, b28⟩,
      d_l_good := ⟨_, _, F29, PySem.W.mg_of X G a_l_good, b29⟩,
      d_l_numbers := ⟨_, _, F30, PySem.W.mg_of X G a_l_numbers, b30⟩,
      d_law := ⟨_, _, F31, PySem.W.mg_of X G a_law, b31⟩,
      c_MOST_COINS := ⟨_, PySem.W.mg_of X G v_MOST_COINS, ⟨_, rfl⟩⟩,
      c_GREATEST_COIN := ⟨_, PySem.W.mg_of X G v_GREATEST_COIN, ⟨_, rfl⟩⟩,
      c_MOST_PEOPLE := ⟨_, PySem.W.mg_of X G v_MOST_PEOPLE, ⟨_, rfl⟩⟩,
      c_GREATEST_AMOUNT := ⟨_, PySem.W.mg_of X G v_GREATEST_AMOUNT, ⟨_, rfl⟩⟩,
      n_isinstance := PySem.W.mg_none_of X G n_isinstance,
      n_int := PySem.W.mg_none_of X G n_int,
      n_bool := PySem.W.mg_none_of X G n_bool,
      n_list := PySem.W.mg_none_of X G n_list,
      n_tuple := PySem.W.mg_none_of X G n_tuple,
      n_len := PySem.W.mg_none_of X G n_len,
      n_enumerate := PySem.W.mg_none_of X G n_enumerate,
      n_sorted := PySem.W.mg_none_of X G n_sorted,
      n_sum := PySem.W.mg_none_of X G n_sum,
      n_set := PySem.W.mg_none_of X G n_set,
      n_abs := PySem.W.mg_none_of X G n_abs,
      n_range := PySem.W.mg_none_of X G n_range,
      n_all := PySem.W.mg_none_of X G n_all,
      n_max := PySem.W.mg_none_of X G n_max,
      n_min := PySem.W.mg_none_of X G n_min,
      y_BadPool := ⟨PySem.W.mg_of X G g_BadPool, ⟨⟨_, _, _, _, _, _, _, _, _, _, _, _, _, _, _, x_BadPool, (show PySem.HandSPX.refsVE [.type "ValueError", .type "Exception", .type "BaseException", .type "object"] = true by decide +kernel)⟩, s_BadPool, e_BadPool, t_BadPool, k_BadPool⟩, ⟨_, _, F1, b1, a_i_BadPool, t_i_BadPool⟩⟩,
      x_BadPool := ⟨ga_BadPool, gg_BadPool, e_BadPool, hd_BadPool⟩,
      f_BadPool_place := f_BadPool_place,
      f_BadPool_what := f_BadPool_what,
      y_BadPeople := ⟨PySem.W.mg_of X G g_BadPeople, x_BadPeople, k_BadPeople, e_BadPeople, t_BadPeople⟩,
      y_BadPerson := ⟨PySem.W.mg_of X G g_BadPerson, x_BadPerson, k_BadPerson, e_BadPerson, t_BadPerson⟩,
      y_BadAmount := ⟨PySem.W.mg_of X G g_BadAmount, x_BadAmount, k_BadAmount, e_BadAmount, t_BadAmount⟩,
      m_BadPool_BadPool := exm_mk e_BadPool i_BadPool t_BadPool m_BadPool_BadPool,
      m_BadPool_BadPeople := exm_mk e_BadPeople i_BadPeople t_BadPeople m_BadPool_BadPeople,
      m_BadPool_BadPerson := exm_mk e_BadPerson i_BadPerson t_BadPerson m_BadPool_BadPerson,
      m_BadPool_BadAmount := exm_mk e_BadAmount i_BadAmount t_BadAmount m_BadPool_BadAmount,
      m_BadPeople_BadPool := exm_mk e_BadPool i_BadPool t_BadPool m_BadPeople_BadPool,
      m_BadPeople_BadPeople := exm_mk e_BadPeople i_BadPeople t_BadPeople m_BadPeople_BadPeople,
      m_BadPeople_BadPerson := exm_mk e_BadPerson i_BadPerson t_BadPerson m_BadPeople_BadPerson,
      m_BadPeople_BadAmount := exm_mk e_BadAmount i_BadAmount t_BadAmount m_BadPeople_BadAmount,
      m_BadPerson_BadPool := exm_mk e_BadPool i_BadPool t_BadPool m_BadPerson_BadPool,
      m_BadPerson_BadPeople := exm_mk e_BadPeople i_BadPeople t_BadPeople m_BadPerson_BadPeople,
      m_BadPerson_BadPerson := exm_mk e_BadPerson i_BadPerson t_BadPerson m_BadPerson_BadPerson,
      m_BadPerson_BadAmount := exm_mk e_BadAmount i_BadAmount t_BadAmount m_BadPerson_BadAmount,
      m_BadAmount_BadPool := exm_mk e_BadPool i_BadPool t_BadPool m_BadAmount_BadPool,
      m_BadAmount_BadPeople := exm_mk e_BadPeople i_BadPeople t_BadPeople m_BadAmount_BadPeople,
      m_BadAmount_BadPerson := exm_mk e_BadPerson i_BadPerson t_BadPerson m_BadAmount_BadPerson,
      m_BadAmount_BadAmount := exm_mk e_BadAmount i_BadAmount t_BadAmount m_BadAmount_BadAmount }
  exact ⟨_, fun s v => .of_eq rfl, fun base _ _ => ok_law F31 T⟩
theorem walk {l : PySem.W.OpenLaw} {q : Program} {loose : List Str} {XP : (Str → Option Value) → Heap → Prop} {YP : World → Heap → Prop} {d : DefRec} {K : Params → PySem.W.Frag} (hn : l.most = some 63) (hdf : d.params.defaults = [])
    (hY : ∀ (w : World) (h : Heap), YP w h → (K w.params).In h)
    (F : ∀ (w : World) (mg : Str → Option Value) (fa : Addr) (h : Heap), (K w.params).In h → h.Ns mainGlobals mg → mg d.name = some (.ref fa) →
      ∃ fd : FuncData, (∀ (s : Shared) (u : Value), BindsTo s fd ⟨[u], []⟩ [("_law_script", u)]) ∧ ∀ base : Heap, (K w.params).In base → base.Ns mainGlobals mg → FnOk l.prog w (K w.params) mg base CX0 6 fa fd ["_law_script"] (sp_law (K w.params))) :
    PySem.W.WalkO q loose XP YP l.row.toRowW d [] (fun f vs => PySem.call f vs) :=
  L2.walk_of (n := 63) (k := 6) (x := "_law_script") (CX := fun _ => CX0) (sp := fun w => sp_law (K w.params)) hn (by decide) hdf ⟨rfl, by decide, by decide⟩ hY F (fun _ _ a ns hl _ hS => ⟨a, ns, rfl, hS, hl, fun _ => rfl⟩) fun _ _ _ _ _ z => z
end My
open PySem PySem.W PyProof.Rows
set_option maxRecDepth 100000 in
set_option maxHeartbeats 0 in
theorem PySem.Challenge.cw_anyworths_k01_pools_people_and_amounts_c_holds : PySem.Challenge.rw_anyworths_k01_pools_people_and_amounts_c.Holds := by
  w_on; o_law; k_head; (case hw => w_witness2)
  k_fill
  refine My.walk (l := PySem.Challenge.rw_anyworths_k01_pools_people_and_amounts_c) rfl rfl (fun w h Y => PySem.W.kIn_of Y) ?F
  case F =>
    intro w mg fa h KX G hmg
    refine' My.all_mk KX G hmg ?g_BadPool ?g_BadPeople ?g_BadPerson ?g_BadAmount ?a_i_BadPool ?l_i_BadPool ?c_i_BadPool ?k_i_BadPool ?t_i_BadPool ?a_is_number ?l_is_number ?c_is_number ?k_is_number ?a_is_whole ?l_is_whole ?c_is_whole ?k_is_whole ?a_is_row ?l_is_row ?c_is_row ?k_is_row ?a_check_pool ?l_check_pool ?c_check_pool ?k_check_pool ?a_check_people ?l_check_people ?t_check_people ?c_check_people ?k_check_people ?a_check_person ?l_check_person ?c_check_person ?k_check_person ?a_check_amount ?l_check_amount ?t_check_amount ?c_check_amount ?k_check_amount ?a_total_of ?l_total_of ?c_total_of ?k_total_of ?a_counted_coins ?l_counted_coins ?c_counted_coins ?k_counted_coins ?a_counted ?l_counted ?c_counted ?k_counted ?a_l_mix ?l_l_mix ?c_l_mix ?k_l_mix ?a_l_hand ?l_l_hand ?c_l_hand ?k_l_hand ?a_l_draw ?l_l_draw ?c_l_draw ?k_l_draw ?a_l_big ?l_l_big ?c_l_big ?k_l_big ?a_l_whole ?l_l_whole ?c_l_whole ?k_l_whole ?a_l_lot_like ?l_l_lot_like ?c_l_lot_like ?k_l_lot_like ?a_l_row_like ?l_l_row_like ?c_l_row_like ?k_l_row_like ?a_l_serving ?l_l_serving ?c_l_serving ?k_l_serving ?a_l_pool ?l_l_pool ?c_l_pool ?k_l_pool ?a_l_great ?l_l_great ?c_l_great ?k_l_great ?a_l_turned ?l_l_turned ?c_l_turned ?k_l_turned ?a_l_odd ?l_l_odd ?c_l_odd ?k_l_odd ?a_l_odd_coin ?l_l_odd_coin ?c_l_odd_coin ?k_l_odd_coin ?a_l_refused ?l_l_refused ?c_l_refused ?k_l_refused ?a_l_people ?l_l_people ?c_l_people ?k_l_people ?a_l_person ?l_l_person ?c_l_person ?k_l_person ?a_l_amount ?l_l_amount ?c_l_amount ?k_l_amount ?a_l_good ?l_l_good ?c_l_good ?k_l_good ?a_l_numbers ?l_l_numbers ?c_l_numbers ?k_l_numbers ?a_law ?l_law ?c_law ?k_law ?v_MOST_COINS ?v_GREATEST_COIN ?v_MOST_PEOPLE ?v_GREATEST_AMOUNT ?n_isinstance ?n_int ?n_bool ?n_list ?n_tuple ?n_len ?n_enumerate ?n_sorted ?n_sum ?n_set ?n_abs ?n_range ?n_all ?n_max ?n_min ?k_BadPool ?e_BadPool ?t_BadPool ?i_BadPool ?x_BadPool ?s_BadPool ?ga_BadPool ?gg_BadPool ?hd_BadPool ?f_BadPool_place ?f_BadPool_what ?k_BadPeople ?e_BadPeople ?t_BadPeople ?i_BadPeople ?x_BadPeople ?k_BadPerson ?e_BadPerson ?t_BadPerson ?i_BadPerson ?x_BadPerson ?k_BadAmount ?e_BadAmount ?t_BadAmount ?i_BadAmount ?x_BadAmount ?m_BadPool_BadPool ?m_BadPool_BadPeople ?m_BadPool_BadPerson ?m_BadPool_BadAmount ?m_BadPeople_BadPool ?m_BadPeople_BadPeople ?m_BadPeople_BadPerson ?m_BadPeople_BadAmount ?m_BadPerson_BadPool ?m_BadPerson_BadPeople ?m_BadPerson_BadPerson ?m_BadPerson_BadAmount ?m_BadAmount_BadPool ?m_BadAmount_BadPeople ?m_BadAmount_BadPerson ?m_BadAmount_BadAmount
    (case g_BadPool => k_is)
    (case g_BadPeople => k_is)
    (case g_BadPerson => k_is)
    (case g_BadAmount => k_is)
    (case a_i_BadPool => k_is)
    (case l_i_BadPool => k_is)
    (case c_i_BadPool => k_is)
    (case k_i_BadPool => k_is)
    (case t_i_BadPool => k_is)
    (case a_is_number => k_is)
    (case l_is_number => k_is)
    (case c_is_number => k_is)
    (case k_is_number => k_is)
    (case a_is_whole => k_is)
    (case l_is_whole => k_is)
    (case c_is_whole => k_is)
    (case k_is_whole => k_is)
    (case a_is_row => k_is)
    (case l_is_row => k_is)
    (case c_is_row => k_is)
    (case k_is_row => k_is)
    (case a_check_pool => k_is)
    (case l_check_pool => k_is)
    (case c_check_pool => k_is)
    (case k_check_pool => k_is)
    (case a_check_people => k_is)
    (case l_check_people => k_is)
    (case t_check_people => k_is)
    (case c_check_people => k_is)
    (case k_check_people => k_is)
    (case a_check_person => k_is)
    (case l_check_person => k_is)
    (case c_check_person => k_is)
    (case k_check_person => k_is)
    (case a_check_amount => k_is)
    (case l_check_amount => k_is)
    (case t_check_amount => k_is)
    (case c_check_amount => k_is)
    (case k_check_amount => k_is)
    (case a_total_of => k_is)
    (case l_total_of => k_is)
    (case c_total_of => k_is)
    (case k_total_of => k_is)
    (case a_counted_coins => k_is)
    (case l_counted_coins => k_is)
    (case c_counted_coins => k_is)
    (case k_counted_coins => k_is)
    (case a_counted => k_is)
    (case l_counted => k_is)
    (case c_counted => k_is)
    (case k_counted => k_is)
    (case a_l_mix => k_is)
    (case l_l_mix => k_is)
    (case c_l_mix => k_is)
    (case k_l_mix => k_is)
    (case a_l_hand => k_is)
    (case l_l_hand => k_is)
    (case c_l_hand => k_is)
    (case k_l_hand => k_is)
    (case a_l_draw => k_is)
    (case l_l_draw => k_is)
    (case c_l_draw => k_is)
    (case k_l_draw => k_is)
    (case a_l_big => k_is)
    (case l_l_big => k_is)
    (case c_l_big => k_is)
    (case k_l_big => k_is)
    (case a_l_whole => k_is)
    (case l_l_whole => k_is)
    (case c_l_whole => k_is)
    (case k_l_whole => k_is)
    (case a_l_lot_like => k_is)
    (case l_l_lot_like => k_is)
    (case c_l_lot_like => k_is)
    (case k_l_lot_like => k_is)
    (case a_l_row_like => k_is)
    (case l_l_row_like => k_is)
    (case c_l_row_like => k_is)
    (case k_l_row_like => k_is)
    (case a_l_serving => k_is)
    (case l_l_serving => k_is)
    (case c_l_serving => k_is)
    (case k_l_serving => k_is)
    (case a_l_pool => k_is)
    (case l_l_pool => k_is)
    (case c_l_pool => k_is)
    (case k_l_pool => k_is)
    (case a_l_great => k_is)
    (case l_l_great => k_is)
    (case c_l_great => k_is)
    (case k_l_great => k_is)
    (case a_l_turned => k_is)
    (case l_l_turned => k_is)
    (case c_l_turned => k_is)
    (case k_l_turned => k_is)
    (case a_l_odd => k_is)
    (case l_l_odd => k_is)
    (case c_l_odd => k_is)
    (case k_l_odd => k_is)
    (case a_l_odd_coin => k_is)
    (case l_l_odd_coin => k_is)
    (case c_l_odd_coin => k_is)
    (case k_l_odd_coin => k_is)
    (case a_l_refused => k_is)
    (case l_l_refused => k_is)
    (case c_l_refused => k_is)
    (case k_l_refused => k_is)
    (case a_l_people => k_is)
    (case l_l_people => k_is)
    (case c_l_people => k_is)
    (case k_l_people => k_is)
    (case a_l_person => k_is)
    (case l_l_person => k_is)
    (case c_l_person => k_is)
    (case k_l_person => k_is)
    (case a_l_amount => k_is)
    (case l_l_amount => k_is)
    (case c_l_amount => k_is)
    (case k_l_amount => k_is)
    (case a_l_good => k_is)
    (case l_l_good => k_is)
    (case c_l_good => k_is)
    (case k_l_good => k_is)
    (case a_l_numbers => k_is)
    (case l_l_numbers => k_is)
    (case c_l_numbers => k_is)
    (case k_l_numbers => k_is)
    (case a_law => k_is)
    (case l_law => k_is)
    (case c_law => k_is)
    (case k_law => k_is)
    (case v_MOST_COINS => k_is)
    (case v_GREATEST_COIN => k_is)
    (case v_MOST_PEOPLE => k_is)
    (case v_GREATEST_AMOUNT => k_is)
    (case n_isinstance => k_is)
    (case n_int => k_is)
    (case n_bool => k_is)
    (case n_list => k_is)
    (case n_tuple => k_is)
    (case n_len => k_is)
    (case n_enumerate => k_is)
    (case n_sorted => k_is)
    (case n_sum => k_is)
    (case n_set => k_is)
    (case n_abs => k_is)
    (case n_range => k_is)
    (case n_all => k_is)
    (case n_max => k_is)
    (case n_min => k_is)
    (case k_BadPool => k_is)
    (case e_BadPool => k_is)
    (case t_BadPool => k_is)
    (case i_BadPool => k_is)
    (case x_BadPool => k_is)
    (case s_BadPool => k_is)
    (case ga_BadPool => k_is)
    (case gg_BadPool => k_is)
    (case hd_BadPool => k_is)
    (case f_BadPool_place => k_is)
    (case f_BadPool_what => k_is)
    (case k_BadPeople => k_is)
    (case e_BadPeople => k_is)
    (case t_BadPeople => k_is)
    (case i_BadPeople => k_is)
    (case x_BadPeople => k_exc)
    (case k_BadPerson => k_is)
    (case e_BadPerson => k_is)
    (case t_BadPerson => k_is)
    (case i_BadPerson => k_is)
    (case x_BadPerson => k_exc)
    (case k_BadAmount => k_is)
    (case e_BadAmount => k_is)
    (case t_BadAmount => k_is)
    (case i_BadAmount => k_is)
    (case x_BadAmount => k_exc)
    (case m_BadPool_BadPool => first | rfl | k_is)
    (case m_BadPool_BadPeople => k_is)
    (case m_BadPool_BadPerson => k_is)
    (case m_BadPool_BadAmount => k_is)
    (case m_BadPeople_BadPool => k_is)
    (case m_BadPeople_BadPeople => first | rfl | k_is)
    (case m_BadPeople_BadPerson => k_is)
    (case m_BadPeople_BadAmount => k_is)
    (case m_BadPerson_BadPool => k_is)
    (case m_BadPerson_BadPeople => k_is)
    (case m_BadPerson_BadPerson => first | rfl | k_is)
    (case m_BadPerson_BadAmount => k_is)
    (case m_BadAmount_BadPool => k_is)
    (case m_BadAmount_BadPeople => k_is)
    (case m_BadAmount_BadPerson => k_is)
    (case m_BadAmount_BadAmount => first | rfl | k_is)

