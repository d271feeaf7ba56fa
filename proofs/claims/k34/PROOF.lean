import PyProof.Rows.All
import Wide.All
import OpenK.AllK
import Wide.FinOn
import HandS.ForMost
import HandS.IsInst
import HandS.Walk
import HandS.Zip
import HandS.TupAny
import HandS.Style
import HandS.TryOnly
import HandS.More
import KE.GoesEnum
import KE.DatumOrd
import PyProof.Rows.FactsN_isinstance
import PyProof.Rows.SortShell
import HandS.ExcInit
import HandS.Small
import HandS.MakeKwOnly
import KE.KExcInit
import KE.KExcIs
import KE.KTryMore
import HandS.WordsExc
import HandS.ExcOwn
import HandS.TupSets
import HandS.Keys
import HandS.Deep
import HandS.Rev
import HandS.Conv
import KE.DataFind
import PyProof.StrLawsRepr
import PySem.Challenge.RW_handshakes_k34_how_many_are_alike
set_option Elab.async false
set_option linter.all false
set_option maxRecDepth 100000
set_option maxHeartbeats 4000000
/-! A layer of my own over HandS: tuples and data that stand still, enumerate over a tuple. -/
namespace Hs
open PySem PySem.Spec PyProof.Rows L2

/-! ### what stands still -/
theorem same_tup {K : PySem.W.Frag} {H G : Hp} {a : Addr} {xs : List V} (e : Same H G) (h : SqT K H a xs) : SqT K G a xs := by
  rcases h with (h | ⟨o, h⟩) | h
  · exact .inl (.inl (e _ _ h))
  · exact .inl (.inr ⟨o, e _ _ h⟩)
  · exact .inr h
theorem same_new {H : Hp} {p : Addr} {o : HO} (h : H p = none) : Same H (upd H p o) := fun b x q => by
  rw [upd_ne (ne_of_none q h)]; exact q
mutual
theorem same_dp {K : PySem.W.Frag} {H G : Hp} (e : Same H G) : ∀ {d : PyData} {v : V}, Dp K H v d → Dp K G v d
  | .none, _, h => by cases h; exact .non
  | .bool b, _, h => by cases h; exact .bl b
  | .int i, _, h => by cases h; exact .int i
  | .str x, _, h => by cases h; exact .str x
  | .list ds, _, h => by cases h with | lst q r => exact .lst (e.seq q) (same_dps e r)
  | .tuple ds, _, h => by cases h with | tup q r => exact .tup (same_tup e q) (same_dps e r)
  | .dict _, _, h => by cases h
theorem same_dps {K : PySem.W.Frag} {H G : Hp} (e : Same H G) : ∀ {ds : List PyData} {vs : List V}, DpAll K H vs ds → DpAll K G vs ds
  | [], _, h => by cases h; exact .nil
  | _ :: _, _, h => by cases h with | cons q r => exact .cons (same_dp e q) (same_dps e r)
end

/-! ### enumerate(v), v begun by any iterator -/
set_option maxHeartbeats 1000000 in
theorem meets_en1 {v : Value} {o : Obj} {G : Heap → Prop} (B : Begins v o G) :
    Meets (Builtin.«enumerate.__new__» ⟨[.type "enumerate", v], []⟩) (fun _ R s => G s.heap ∧
      R (.ok (.ret (.ref (s.heap.push o).objs.size))) { s with heap := (s.heap.push o).push { cls := .type "enumerate", data := .fields #[.none, .bool false, .ref s.heap.objs.size, rawInt 0, .none, .none] } }) :=
  .of_wp fun prog w A R s h => by
    obtain ⟨hp, g, d, tk, os⟩ := s
    obtain ⟨hG, hR⟩ := h
    have hsub := sub_enumerate
    have goes : ∀ {A' : Around} {E : Value → Shared → Prop} {Q : Value → Shared → Prop}, Q (.ref hp.objs.size) ⟨hp.push o, g, d, tk, os⟩ → wpAny (model prog w) A' (pyIter v) Q E ⟨hp, g, d, tk, os⟩ := fun q => B.iter prog w _ _ ⟨hp, g, d, tk, os⟩ _ hG q
    wp_walk using goes
    refine wpAny_stack_any fun st => wpAny_pure ?_
    split
    · rename_i c _ _ _ _ _
      cases (c == Value.type "enumerate")
      all_goals (wp_walk using goes; exact ⟨_, rfl, hR⟩)
    · wp_walk using goes; exact ⟨_, rfl, hR⟩
section
variable {prog : Program} {w : World} {A : Around} {E : Value → Shared → Prop} {s : Shared}
theorem en1_begins {v : Value} {o : Obj} {G : Heap → Prop} {Q : Value → Shared → Prop} (B : Begins v o G) (hG : G s.heap)
    (h : ∀ k, IsEnum k (s.heap.objs.size + 1) s.heap.objs.size 0 .none → k.get? s.heap.objs.size = some o → (∀ b u, s.heap.get? b = some u → k.get? b = some u) → Q (.ref (s.heap.objs.size + 1)) { s with heap := k }) :
    wpAny (model prog w) A (call (.type "enumerate") [v]) Q E s := by
  refine callType_new F.called_enumerate (by decide) (F.typeCall_enumerate_1 _) (F.newCall_enumerate_1 _) (fun obj => F.args_object_init_2 obj _) F.entry_enumerate_new (meets_en1 B) ⟨hG, ?_⟩
  have sz : (s.heap.push o).objs.size = s.heap.objs.size + 1 := Heap.size_push ..
  show _ ∧ _
  rw [sz]
  have isE : IsEnum ((s.heap.push o).push { cls := .type "enumerate", data := .fields #[.none, .bool false, .ref s.heap.objs.size, rawInt 0, .none, .none] }) (s.heap.objs.size + 1) s.heap.objs.size 0 .none := by
    have q := Heap.get?_push_size (s.heap.push o) (o := { cls := .type "enumerate", data := .fields #[.none, .bool false, .ref s.heap.objs.size, rawInt 0, .none, .none] }) rfl
    rw [sz] at q; exact q
  exact ⟨⟨_, isE, rfl⟩, h _ isE (Heap.get?_push_of_some _ (Heap.get?_push_size _ B.free)) fun b u x => Heap.get?_push_of_some _ (Heap.get?_push_of_some _ x)⟩
end

/-! ### for i, x in enumerate(tuple) -/
/-- the tuple at a, each item in a new pair -/
def Iet (K : PySem.W.Frag) (a : Addr) : It where
  go := fun i H => ∃ (xs : List V) (x : V), SqT K H a xs ∧ xs[i]? = some x
  yld := fun i H v G => ∃ T x, v = .ref T ∧ H T = none ∧ G = upd H T (.tup [.int (i : Nat), x]) ∧ ∀ xs, SqT K H a xs → xs[i]? = some x
  stop := fun i H => ∃ xs : List V, SqT K H a xs ∧ xs.length ≤ i
theorem turn_en {P : Program} {w : World} {K : PySem.W.Frag} {elts : List Expr} {kk : Nat} {tpos : Pos} (a e it : Addr) (hai : a ≠ it) (hae : a ≠ e) :
    Turn P w K (.Tuple elts kk tpos) (Iet K a) [e, it] e (fun i h => (∃ old, IsEnum h e it ((i : Nat) : Int) old) ∧ h.IsTupleIter it a i ∧ e ≠ it) where
  mem := by simp
  obj := fun i h st b hb => by
    obtain ⟨⟨old, he⟩, ⟨o, ho, hc, hd⟩, _⟩ := st
    rcases (show b = e ∨ b = it by simpa using hb) with rfl | rfl
    · exact ⟨_, he, fun v q => nomatch q⟩
    · exact ⟨o, ho, fun v q => by rw [hd] at q; cases q⟩
  keep := fun i h h' st k => by
    obtain ⟨⟨old, he⟩, hi, ne⟩ := st
    exact ⟨⟨old, k e (by simp) _ he⟩, hi.at fun o q => k it (by simp) o q, ne⟩
  item := by
    intro X hP hw hK hc i pins s σ H E I hf st hg
    subst hP hw hK
    obtain ⟨⟨old, he⟩, hit, hne⟩ := st
    obtain ⟨xs, x, hq, hx⟩ := hg
    obtain ⟨its, rv, p, hz⟩ := I.tuple hq
    obtain ⟨u, hu, ru⟩ := rv.get hx
    have ltE : e < s.heap.objs.size := Heap.lt_size he
    have ltI : it < s.heap.objs.size := by obtain ⟨_, q, _⟩ := hit; exact Heap.lt_size q
    have D := Draws.tuple (prog := X.prog) (w := X.w) (A := X.A.in1) (I.ok.hd hc) it a hai its.toArray
    have nf : e ∉ [it, a] := by
      intro z
      rcases (show e = it ∨ e = a by simpa using z) with z | z
      · exact hne z
      · exact hae z.symm
    refine wpAny_pyNext_enum_itemD D he ⟨hit, p⟩ (by simpa using (List.getElem?_eq_some_iff.mp hu).1) hne nf fun y h' tk hy ho hst hT hsz hk => ?_
    have ey : y = u := by
      have z : its.toArray[i]? = some y := hy
      have z2 : its.toArray[i]? = some u := by simpa using hu
      exact Option.some.inj (z.symm.trans z2)
    subst ey
    refine ⟨_, rfl, wpAny_letOwnedTupleGo_enum (s := { s with heap := h', toks := tk + 1 }) ho fun h'' he' sb => ?_⟩
    have hT2 : h''.get? s.heap.objs.size = some { cls := .type "tuple", data := .seq #[.int i tk, y] } := (sb.2 _ (Nat.ne_of_gt ltE)).trans hT
    have new : ObjOk X.prog X.w (upd H s.heap.objs.size (.tup [.int (i : Nat), x])) h'' s.heap.objs.size (.tup [.int (i : Nat), x]) :=
      ⟨by show 2 ≤ sizeLine; decide, [.int i tk, y], .cons ⟨_, rfl⟩ (.cons ru .nil), ⟨_, hT2, rfl, _, rfl⟩⟩
    have J : Inv X pins σ (upd H s.heap.objs.size (.tup [.int (i : Nat), x])) { s with heap := h'', toks := tk + 1 } := by
      refine I.turnedNew (ch := [e, it]) (fun b ob hb q => ?_) hf (Nat.le_refl _) new
      have h1 : b ≠ e := fun z => hb (by simp [z])
      have h2 : b ≠ it := fun z => hb (by simp [z])
      exact (sb.2 b h1).trans (hk b ob h1 h2 q)
    refine ⟨.ref s.heap.objs.size, _, J, rfl, ⟨_, x, rfl, I.hok.fresh (Nat.le_refl _), rfl, fun ys hy => by rw [I.tuple_inj hy hq]; exact hx⟩, ⟨⟨y, ?_⟩, hst.1.at fun o q => (sb.2 it (Ne.symm hne)).trans q, hne⟩, fun b hb => ?_⟩
    · have e1 : ((i + 1 : Nat) : Int) = (i : Int) + 1 := by omega
      rw [e1]; exact he'
    · have lt : b < s.heap.objs.size := by
        rcases (show b = e ∨ b = it by simpa using hb) with rfl | rfl
        · exact ltE
        · exact ltI
      rw [upd_ne (Nat.ne_of_lt lt)]
      exact (hf b hb).1
  done := by
    intro X hP hw hK hc i pins s σ H E I hf st hg
    subst hP hw hK
    obtain ⟨⟨old, he⟩, hit, hne⟩ := st
    obtain ⟨xs, hq, hx⟩ := hg
    obtain ⟨its, rv, p, hz⟩ := I.tuple hq
    obtain ⟨f0, f1, f2, f3, f4, f5⟩ := hf it (by simp)
    have hT : s.TypeIs (.ref e) "enumerate" := ⟨_, he, rfl⟩
    have hl := rv.length
    unfold pyNext
    refine wpAny_bind (wpAny_attempt (wpAny_callSpecial?_slot (name := Str.ofString "__next__") hT F.slot_enumerate_next (wpAny_call_entry F.slot_enumerate_next hT F.entry_enumerate_next ?_ (F.args_enumerate_next_1 _))))
    show wpAny _ _ (field (.ref e) 2 >>= _) _ _ _
    refine wpAny_bind (wpAny_field he rfl (x := .ref it) rfl ?_)
    refine wpAny_bind (wpAny_nextOf_tuple_end (I.ok.hd hc) hit p (by simp; omega) fun h' x eb hx' => ?_)
    obtain ⟨o, ho, hco⟩ := hx'
    refine wpAny_bind (wpAny_isInstance (T := "StopIteration") (b := true) ⟨o, ho, hco⟩ isSubtype_stop ?_)
    exact wpAny_pure ⟨rfl, I.turned (t' := s.toks) (fun b ob hb q => eb b ob hb q) f0 f1 f3 f4 f5⟩
  self := fun A i s Q E st h => by
    obtain ⟨⟨_, he⟩, _⟩ := st
    exact wpAny_pyIter_enum he h
def iEnT (K : PySem.W.Frag) (ta : TA) : TI := fun σ H R => ta σ H fun vs G => ∃ a xs, vs = [.ref a] ∧ SqT K G a xs ∧ R (Iet K a) G
theorem pi_enT {X : Cx} {e : Expr} {ta : TA} {p pos tpos : Pos} {elts : List Expr} {kk : Nat} (hg : Gl X "enumerate") (hm : X.mg "enumerate" = none) (ha : PA X [e] ta) (hs : starEach [e] X.env = [(false, eval e X.env)] := by rfl) :
    PI X (.Tuple elts kk tpos) (.Call (.Name "enumerate" p) [e] [] pos) (iEnT X.K ta) := by
  refine ⟨fun pins s σ H R I h => ?_⟩
  refine Call_ (ld_blt I hg hm boot_enumerate (PyProof.Rows.callWith_type1 (thn (ha.run pos pins s σ H _ I h) fun us s1 hh => ?_) hs rfl))
  obtain ⟨vs, G, J, r1, a, xs, ex, hq, q⟩ := hh
  subst ex
  cases r1 with
  | cons r rr =>
    cases rr
    cases r
    obtain ⟨its, rv, p', hz⟩ := J.tuple hq
    have al : a < s1.heap.objs.size := p'.lt
    refine en1_begins (begins_tuple a its.toArray) p' fun k hk hi hkeep => wpAny_pyIter_enum hk ?_
    have J2 : Inv X pins σ G { s1 with heap := k } := J.kept (t' := s1.toks) hkeep
    refine ⟨s1.heap.objs.size + 1, [s1.heap.objs.size + 1, s1.heap.objs.size], _, _, G, rfl, J2, turn_en a _ _ (Nat.ne_of_lt al) (Nat.ne_of_lt (Nat.lt_succ_of_lt al)), ⟨⟨.none, hk⟩, ⟨_, hi, rfl, rfl⟩, Nat.succ_ne_self _⟩, fun b hb => ?_, q⟩
    have le : s1.heap.objs.size ≤ b := by
      rcases (show b = s1.heap.objs.size + 1 ∨ b = s1.heap.objs.size by simpa using hb) with z | z
      · rw [z]; exact Nat.le_succ _
      · rw [z]; exact Nat.le_refl _
    exact J.fpOk le (J.hok.fresh le)
theorem walk_enT {K : PySem.W.Frag} {a : Addr} {xs : List V} : Walk (Iet K a) xs.length (fun H => SqT K H a xs) (YPair (fun i => some (.int (i : Nat))) fun i => xs[i]?) := by
  refine ⟨fun i H hi q => ⟨xs, xs[i], q, by simp [hi]⟩, fun H q => ⟨xs, q, Nat.le_refl _⟩, fun i H v G _ q y => ?_⟩
  obtain ⟨T, x, e1, e2, e3, f⟩ := y
  exact ⟨T, _, x, e1, e2, e3, rfl, f _ q⟩
end Hs

set_option Elab.async false
set_option linter.all false
set_option maxRecDepth 100000
set_option maxHeartbeats 4000000
/-! Defs that are run while no repr is under way: FnG, as FnOk but for the guards. -/
namespace Hs
open PySem PySem.Spec PyProof.Rows L2
structure FnG (P : Program) (w : World) (K : PySem.W.Frag) (mg : Str → Option Value) (base : Heap) (CX : CXT) (k : Nat) (f : Addr) (fd : FuncData) (ps : List Str) (sp : Sp) : Prop where
  len : ∀ xs G R T, sp xs G R T → xs.length = ps.length
  run : ∀ (B : Around) (out : List Env) (t : Shared) (G : Hp) (args : Args) (us : List Value) (xs : List V) (R : VK) (T : XK), B.guards = some [] → Room k B → Env0 P w K mg base B out t G → BindsTo t fd args (ps.zip us) → Vals xs us → sp xs G R T →
    codeAny (model P w) B (.call (.ref f) args) (CR CX out P w G t R T) t
section
variable {P : Program} {w : World} {K : PySem.W.Frag} {mg : Str → Option Value} {base : Heap} {CX : CXT}
theorem fng_of {k : Nat} {f : Addr} {name qual : Str} {params : Arguments} {body : List Stmt} {scope : Scope} {dV kV doc pm cdv ct oc : Value} {an od : Option Addr} {osl : Array (Option Value)} {N ps : List Str} {sp : Sp}
    (lk : K.lookup f = some ⟨oc, od, .func (PySem.W.fnOf name qual params body scope dV kV doc pm an cdv ct), osl⟩) (code : PySem.W.codeIn K cdv qual = true) (S : FnScope N ps scope) (len : ∀ xs G R T, sp xs G R T → xs.length = ps.length)
    (hb : ∀ (B : Around) (out : List Env) (t : Shared) (G : Hp) (xs : List V) (R : VK) (T : XK), B.guards = some [] → Room k (B.deeper (envOfC qual scope t.heap.objs.size f cdv)) → sp xs G R T →
      ∃ r, PSs (cxOf CX P w K mg base N qual scope f cdv B out t G T) body r ∧ r { nx := fun _ G' => R .non G', rt := R } (start N xs) G) :
    FnG P w K mg base CX (k + 1) f (PySem.W.fnOf name qual params body scope dV kV doc pm an cdv ct) ps sp := by
  refine ⟨len, fun B out t G args us xs R T hg room e0 bind rel hsp => ?_⟩
  have KX : K.In t.heap := e0.mod.kin.keeps fun b o q => (e0.bs b o q).1
  have lim : t.heap.NoLimit := e0.mod.nolimit.keeps fun b o q => (e0.bs b o q).1
  have kinds : ∀ y ∈ ps.zip us, scope.names.lookup y.1 = some .local ∨ (scope.names.lookup y.1 = some .cell ∧ ((cellsFrom (t.heap.objs.size + 1) scope.names []).lookup y.1).isSome = true) := by
    rintro ⟨n, v⟩ hy
    rcases S.par n (List.of_mem_zip hy).1 with q | q
    · exact .inl q
    · exact .inr ⟨q, PySem.W.cellsFrom_some _ _ _ (.inl q)⟩
  refine codeAny_call_function room.depth (KX _ _ lk) rfl S.co S.gen rfl (PySem.W.codeRec_of KX code) (bind _ _ _ _ (wpAny_newFunctionEnv_cells S.kind kinds fun env he s1 x => ?_))
  subst he
  refine ⟨lim.keeps x.toInCall.keep, codeAny_func ?_⟩
  obtain ⟨r, hr, hq⟩ := hb B out t G xs R T hg (room.deeper _) hsp
  have I : Inv (cxOf CX P w K mg base N qual scope f cdv B out t G T) [] (start N xs) G s1 := inv_start S room.hd e0 (len _ _ _ _ hsp) rel x
  refine wpAny_mono (hr.run [] s1 (start N xs) G _ I hq) (fun fl s' z => ?_) fun _ _ z => z
  cases fl with
  | ret u => obtain ⟨v, σ', G', J, rv, q⟩ := z; exact ⟨v, G', J.os, J.bare, J.base, J.hok, rv, q⟩
  | next => obtain ⟨σ', G', J, q⟩ := z; exact ⟨V.non, G', J.os, J.bare, J.base, J.hok, rfl, q⟩
  | brk => obtain ⟨_, _, _, q⟩ := z; exact q.elim
  | cont => obtain ⟨_, _, _, q⟩ := z; exact q.elim
theorem fun_okG {x qual : Str} {st : Stmt} {f : Addr} {fd : FuncData} {N ps : List Str} {k : Nat} {sp : Sp} (F : Fun K x qual st f fd) (S : FnScope N ps (defScope st)) (len : ∀ xs G R T, sp xs G R T → xs.length = ps.length)
    (hb : ∀ (cdv : Value) (B : Around) (out : List Env) (t : Shared) (G : Hp) (xs : List V) (R : VK) (T : XK), B.guards = some [] → Room k (B.deeper (envOfC qual (defScope st) t.heap.objs.size f cdv)) → sp xs G R T →
      ∃ r, PSs (cxOf CX0 P w K mg base N qual (defScope st) f cdv B out t G T).nox (defBody st) r ∧ r { nx := fun _ G' => R .non G', rt := R } (start N xs) G) : FnG P w K mg base CX0 (k + 1) f fd ps sp := by
  obtain ⟨oc, od, kV, doc, pm, an, cdv, ct, osl, rfl, lk, hcd⟩ := F.ex
  refine fng_of lk hcd S len fun B out t G xs R T hg hr hsp => ?_
  obtain ⟨r, h, q⟩ := hb cdv B out t G xs R T hg hr hsp
  exact ⟨r, h.nox, q⟩
end
section
variable {X : Cx} {CX : CXT} {k : Nat} {f : Addr} {fd : FuncData} {ps : List Str} {sp : Sp} {E : XK} {x : Str} {p pos : Pos} {e : Expr} {es : List Expr} {t : TA}
theorem pe_callG (F : FnG X.prog X.w X.K X.mg X.base CX k f fd ps sp) (gd : X.A.guards = some []) (room : Room k X.A) (hg : Gl X x) (hm : X.mg x = some (.ref f)) (hk : PySem.W.keepIn X.K (.ref f) = true) (hb : Binds X.K fd ps []) (hx : Passes CX X E) (ha : PA X (e :: es) t)
    (hdb : (x == ("__debug__" : Str)) = false := by decide) (he : starEach (e :: es) X.env = (false, eval e X.env) :: starEach es X.env := by rfl) (hpl : (backTo pos (starEach es X.env)).any (·.1) = false := by rfl) :
    PE X (.Call (.Name x p) (e :: es) [] pos) (tCall sp [] E t) := by
  refine ⟨fun pins s σ H Q I h => ?_⟩
  refine wpAny_Call_Name_kw (ld_glob I hg hm ?_ hdb)
  refine PySem.W.callWith_K (h₀ := X.base) I.ok.mod.kin hk (thn (ha.run pos pins s σ H _ I h) fun us s1 z => ?_) he hpl
  obtain ⟨vs, G, J, rel, q⟩ := z
  refine ⟨J.kIn, ?_⟩
  have r2 : Vals (vs ++ []) (us ++ []) := rel.append .nil
  have hl : (us ++ []).length = ps.length := by rw [← r2.length]; exact F.len _ _ _ _ q
  refine wpAny_call (codeAny_mono (F.run X.A X.stack s1 G ⟨us, []⟩ (us ++ []) (vs ++ []) Q E gd room J.env0 (hb s1 us J.kIn hl) r2 q) fun r s' hq => ?_)
  cases r with
  | error er => exact hx pins σ G s1 er s' J hq
  | ok fl =>
    cases fl with
    | ret u => exact J.after hq
    | next => exact False.elim hq
    | brk => exact False.elim hq
    | cont => exact False.elim hq
end

/-! ### the law's call -/
theorem law_callG {P : Program} {w : World} {K : PySem.W.Frag} {mg mb : Str → Option Value} {k : Nat} {fa a : Addr} {fd : FuncData} {x : Str} {sp : Sp} {t : Shared} {vs : List Value} {ns : List Int}
    (KX : K.In t.heap) (hns : t.heap.Ns mainGlobals mg) (hb : t.heap.Ns builtinsNs mb) (hbb : ∀ y : Str, y ≠ "__name__" → mb y = bootBuiltins y) (hlim : t.heap.NoLimit) (hgen : t.gens = #[])
    (ha : t.heap.get? a = some { cls := .type "list", data := .seq vs.toArray }) (hi : IntsAre vs ns) (hl : ns.length ≤ sizeLine) (room : Room k callerA)
    (F : ∀ base : Heap, K.In base → base.Ns mainGlobals mg → FnG P w K mg base CX0 k fa fd [x] sp) (hbind : ∀ (s : Shared) (u : Value), BindsTo s fd ⟨[u], []⟩ [(x, u)])
    (hsp : ∀ H : Hp, Only H → SqL K H a (ns.map V.int) → sp [.ref a] H (fun v _ => v = .bl true) fun _ _ _ => False) :
    codeAny (model P w) callerA (.call (.ref fa) ⟨[.ref a], []⟩) (fun r s' => r = .ok (.ret (.bool true)) ∧ OldK t.heap s'.heap ∧ s'.os = t.os ∧ AllBare s'.gens) t := by
  have rv := vals_ints hi
  have lenV := hi.length
  have core : ∀ H : Hp, Only H → SqL K H a (ns.map V.int) → HOk P w H t.heap → (∀ b, H b ≠ none → b = a) → (H a ≠ none → K.lookup a = none) →
      codeAny (model P w) callerA (.call (.ref fa) ⟨[.ref a], []⟩) (fun r s' => r = .ok (.ret (.bool true)) ∧ OldK t.heap s'.heap ∧ s'.os = t.os ∧ AllBare s'.gens) t := by
    intro H only sq hok atA noK
    have keepB : ∀ {b : Addr} {o : Obj}, t.heap.get? b = some o → H b = none → (hidT t.heap H).get? b = some o := fun q n => hidT_get q n
    have dictN : ∀ {b : Addr} {o : Obj} {es : Array DictEntry} {ep : Nat}, t.heap.get? b = some o → o.data = .dict es ep → H b = none := by
      intro b o es ep q d
      cases z : H b with
      | none => rfl
      | some u =>
        have e := atA b (by rw [z]; simp)
        subst e
        rw [ha] at q; cases q
        exact nomatch (show Data.seq vs.toArray _ = Data.dict es ep from d)
    have nsK : ∀ {b : Addr} {m : Str → Option Value}, t.heap.Ns b m → (hidT t.heap H).Ns b m := by
      rintro b m ⟨o, es, ep, q, d, r⟩
      exact ⟨o, es, ep, keepB q (dictN q d), d, r⟩
    have inB : K.In (hidT t.heap H) := by
      intro b o q
      refine keepB (KX b o q) ?_
      cases z : H b with
      | none => rfl
      | some u =>
        have e := atA b (by rw [z]; simp)
        subst e
        rw [noK (by rw [z]; simp)] at q; cases q
    have hM : Mod K mg (hidT t.heap H) := by
      obtain ⟨mc, h1, h2⟩ := hlim
      exact ⟨inB, nsK hns, ⟨mb, nsK hb, hbb⟩, ⟨mc, nsK h1, h2⟩⟩
    have e0 : Env0 P w K mg (hidT t.heap H) callerA [] t H := by
      refine ⟨rfl, hM, fun b o q => of_hidT q, Nat.le_of_eq (hidT_size _ _), trivial, fun b z => ?_, hok, .of_eq hgen⟩
      exact absurd (show b ∈ ([] : List Addr) from z) (by simp)
    refine codeAny_mono ((F _ inB (nsK hns)).run callerA [] t H ⟨[.ref a], []⟩ [.ref a] [.ref a] _ _ rfl room e0 (hbind t (.ref a)) (.cons rfl .nil) (hsp H only sq)) fun r s' z => ?_
    cases r with
    | error er => exact False.elim z
    | ok fl =>
      cases fl with
      | next => exact False.elim z
      | brk => exact False.elim z
      | cont => exact False.elim z
      | ret u =>
        obtain ⟨v, G, os, bare, un, hokG, rel, q⟩ := z
        have q' : v = .bl true := q
        subst q'
        obtain rfl : u = Value.bool true := rel
        refine ⟨rfl, OldK.of_keep fun b o e => ?_, os, bare⟩
        cases zb : H b with
        | none => exact un.keep b o e zb (fun y => absurd (show b ∈ ([] : List Addr) from y) (by simp)) (by simp)
        | some y =>
          rcases only b with n | ⟨ob, ys, n⟩
          · rw [zb] at n; cases n
          · obtain ⟨e1, _⟩ := hok b _ n
            obtain ⟨e2, _⟩ := hokG b _ (un.frzs b ob _ n)
            rw [e] at e1; cases e1
            exact e2
  cases hk : K.lookup a with
  | some o =>
    have q := KX a o hk
    rw [ha] at q
    cases q
    refine core (fun _ => none) (fun _ => .inl rfl) (.inr ⟨_, vs.toArray, _, hk, rfl, rfl, rfl, ?_, by simpa using rv⟩) (fun b u z => nomatch (show (none : Option HO) = some u from z)) (fun b z => absurd rfl z) fun z => absurd rfl z
    rw [List.size_toArray, lenV]; exact hl
  | none =>
    refine core (fun b => if b = a then some (.frz { cls := .type "list", data := .seq vs.toArray } (.lst (ns.map V.int))) else none) (fun b => ?_) (.inl (.inr ⟨_, if_pos rfl⟩)) (fun b u z => ?_) (fun b z => ?_) fun _ => hk
    · by_cases e : b = a
      · exact .inr ⟨_, _, if_pos e⟩
      · exact .inl (if_neg e)
    · by_cases e : b = a
      · have y := (if_pos e).symm.trans z
        cases y
        subst e
        exact ⟨ha, by rw [List.length_map]; exact hl, vs, _, rv, ha⟩
      · exact nomatch (show none = some u from (if_neg e).symm.trans z)
    · by_cases e : b = a
      · exact e
      · exact absurd (if_neg e) z
theorem walk_ofG {l : PySem.W.OpenLaw} {n k : Nat} {q : Program} {loose : List Str} {XP : (Str → Option Value) → Heap → Prop} {YP : World → Heap → Prop} {d : DefRec} {K : Params → PySem.W.Frag} {sp : World → Sp} {x : Str}
    (hn : l.most = some n) (hn2 : n ≤ sizeLine) (hdf : d.params.defaults = []) (room : Room k callerA) (hY : ∀ (w : World) (h : Heap), YP w h → (K w.params).In h)
    (F : ∀ (w : World) (mg : Str → Option Value) (fa : Addr) (h : Heap), (K w.params).In h → h.Ns mainGlobals mg → mg d.name = some (.ref fa) →
      ∃ fd : FuncData, (∀ (s : Shared) (u : Value), BindsTo s fd ⟨[u], []⟩ [(x, u)]) ∧ ∀ base : Heap, (K w.params).In base → base.Ns mainGlobals mg → FnG l.prog w (K w.params) mg base CX0 k fa fd [x] (sp w))
    (hsp : ∀ (w : World) (H : Hp) (a : Addr) (ns : List Int), ns.length ≤ n → Only H → SqL (K w.params) H a (ns.map V.int) → sp w [.ref a] H (fun v _ => v = .bl true) fun _ _ _ => False) :
    PySem.W.WalkO q loose XP YP l.row.toRowW d [] (fun f vs => PySem.call f vs) := by
  refine Att.attach_call hn hdf fun w s₀ s₁ mg mb fa o pm cd doc a vs ns G Y ho hd hcd hmg hobj hints hlen hg => ?_
  have KX := hY w _ Y
  obtain ⟨fd, bnd, hF⟩ := F w mg fa _ KX G.T.g hmg
  exact law_callG KX G.T.g G.T.b G.T.builtins G.T.nolimit hg hobj hints (Nat.le_trans hlen hn2) room hF bnd fun H hO hS => hsp w H a ns hlen hO hS

/-! ### repr of data -/
theorem call_reprD {X : Cx} (gd : X.A.guards = some []) (hu : X.A.units + 64 < cLine) : CallR X (.builtin "repr") (fun xs H Q => ∃ v d, xs = [v] ∧ Dp X.K H v d ∧ d.showable = true ∧ d.hasDict = false ∧ d.depth < 60 ∧ d.shown.length ≤ sizeLine ∧ Q (.str d.shown) H) := by
  intro pins s σ H xs us Q I r h
  obtain ⟨v, d, rfl, hd, sh, nd, dp, sz, q⟩ := h
  obtain ⟨u, rfl, ru⟩ := vals1 r
  cases hd with
  | non => cases ru; exact PySem.P.repr_of_none ⟨.str _, H, I.tok _, ⟨_, rfl⟩, q⟩
  | bl b => cases ru; exact PySem.P.repr_of_bool ⟨.str _, H, I.tok _, ⟨_, rfl⟩, q⟩
  | int i => obtain ⟨t, rfl⟩ := ru; exact PySem.P.repr_of_int (of_decide_eq_true sh) ⟨.str _, H, I.tok _, ⟨_, rfl⟩, q⟩
  | str x => obtain ⟨t, rfl⟩ := ru; exact PySem.P.repr_of_str ⟨.str _, H, I.tok _, ⟨_, rfl⟩, q⟩ sz
  | lst hs ha =>
    cases ru
    obtain ⟨as, rr⟩ := Dp.reads I _ _ _ (Dp.lst hs ha) rfl
    exact repr_of_reads' rr sh (fun z => by rw [nd] at z; cases z) gd (by omega) (fun _ _ e => e) (fun h' u tk hk => ⟨.str _, H, I.kept (t' := tk) hk, ⟨_, rfl⟩, q⟩) sz
  | tup hs ha =>
    cases ru
    obtain ⟨as, rr⟩ := Dp.reads I _ _ _ (Dp.tup hs ha) rfl
    exact repr_of_reads' rr sh (fun z => by rw [nd] at z; cases z) gd (by omega) (fun _ _ e => e) (fun h' u tk hk => ⟨.str _, H, I.kept (t' := tk) hk, ⟨_, rfl⟩, q⟩) sz
end Hs

set_option Elab.async false
set_option linter.all false
set_option maxRecDepth 100000
set_option maxHeartbeats 4000000
/-! Data: kinds, isinstance; the names of built-ins that a text leaves alone. -/
namespace Hs
open PySem PySem.Spec PyProof.Rows L2
/-- the built-in class of data -/
def tyD : PyData → String
  | .none => "NoneType" | .bool _ => "bool" | .int _ => "int" | .str _ => "str" | .list _ => "list" | .tuple _ => "tuple" | .dict _ => "dict"
theorem dp_ty {K : PySem.W.Frag} {H : Hp} {v : V} {d : PyData} (h : Dp K H v d) : TyX K H v (.type (tyD d)) := by
  cases h with
  | non => exact .base .non
  | bl b => exact .base (.bl b)
  | int i => exact .base (.int i)
  | str x => exact .base (.str x)
  | lst q _ =>
    rcases q with (q | ⟨o, q⟩) | ⟨o, its, n, q, c, _⟩
    · exact .base (.lst q)
    · exact .base (.frz q)
    · exact .kList q c
  | tup q _ =>
    rcases q with (q | ⟨o, q⟩) | ⟨o, its, n, q, c, _⟩
    · exact .base (.tup q)
    · exact .fTuple q
    · exact .kTuple q c
def isI : PyData → Bool | .int _ => true | .bool _ => true | _ => false
def isB : PyData → Bool | .bool _ => true | _ => false
def isL : PyData → Bool | .list _ => true | _ => false
def isT : PyData → Bool | .tuple _ => true | _ => false
def isS : PyData → Bool | .str _ => true | _ => false
/-- a number: an int that is no bool -/
def isN : PyData → Bool | .int _ => true | _ => false
theorem kit_int (d : PyData) : kitB (tyD d) "int" = some (isI d) := by
  cases d with
  | none => exact (by decide +kernel : kitB "NoneType" "int" = some false)
  | bool _ => exact (by decide +kernel : kitB "bool" "int" = some true)
  | int _ => exact (by decide +kernel : kitB "int" "int" = some true)
  | str _ => exact (by decide +kernel : kitB "str" "int" = some false)
  | list _ => exact (by decide +kernel : kitB "list" "int" = some false)
  | tuple _ => exact (by decide +kernel : kitB "tuple" "int" = some false)
  | dict _ => exact (by decide +kernel : kitB "dict" "int" = some false)
theorem kit_bool (d : PyData) : kitB (tyD d) "bool" = some (isB d) := by
  cases d with
  | none => exact (by decide +kernel : kitB "NoneType" "bool" = some false)
  | bool _ => exact (by decide +kernel : kitB "bool" "bool" = some true)
  | int _ => exact (by decide +kernel : kitB "int" "bool" = some false)
  | str _ => exact (by decide +kernel : kitB "str" "bool" = some false)
  | list _ => exact (by decide +kernel : kitB "list" "bool" = some false)
  | tuple _ => exact (by decide +kernel : kitB "tuple" "bool" = some false)
  | dict _ => exact (by decide +kernel : kitB "dict" "bool" = some false)
theorem kit_list (d : PyData) : kitB (tyD d) "list" = some (isL d) := by
  cases d with
  | none => exact (by decide +kernel : kitB "NoneType" "list" = some false)
  | bool _ => exact (by decide +kernel : kitB "bool" "list" = some false)
  | int _ => exact (by decide +kernel : kitB "int" "list" = some false)
  | str _ => exact (by decide +kernel : kitB "str" "list" = some false)
  | list _ => exact (by decide +kernel : kitB "list" "list" = some true)
  | tuple _ => exact (by decide +kernel : kitB "tuple" "list" = some false)
  | dict _ => exact (by decide +kernel : kitB "dict" "list" = some false)
theorem kit_tuple (d : PyData) : kitB (tyD d) "tuple" = some (isT d) := by
  cases d with
  | none => exact (by decide +kernel : kitB "NoneType" "tuple" = some false)
  | bool _ => exact (by decide +kernel : kitB "bool" "tuple" = some false)
  | int _ => exact (by decide +kernel : kitB "int" "tuple" = some false)
  | str _ => exact (by decide +kernel : kitB "str" "tuple" = some false)
  | list _ => exact (by decide +kernel : kitB "list" "tuple" = some false)
  | tuple _ => exact (by decide +kernel : kitB "tuple" "tuple" = some true)
  | dict _ => exact (by decide +kernel : kitB "dict" "tuple" = some false)
theorem kit_str (d : PyData) : kitB (tyD d) "str" = some (isS d) := by
  cases d with
  | none => exact (by decide +kernel : kitB "NoneType" "str" = some false)
  | bool _ => exact (by decide +kernel : kitB "bool" "str" = some false)
  | int _ => exact (by decide +kernel : kitB "int" "str" = some false)
  | str _ => exact (by decide +kernel : kitB "str" "str" = some true)
  | list _ => exact (by decide +kernel : kitB "list" "str" = some false)
  | tuple _ => exact (by decide +kernel : kitB "tuple" "str" = some false)
  | dict _ => exact (by decide +kernel : kitB "dict" "str" = some false)
theorem isi_of {K : PySem.W.Frag} {H : Hp} {v : V} {d : PyData} {T : String} {f : PyData → Bool} {Q : VK} (kt : ∀ d, kitB (tyD d) T = some (f d)) (h : Dp K H v d) (q : Q (.bl (f d)) H) : rIsi K [v, .ty T] H Q :=
  ⟨v, .ty T, _, _, _, rfl, .ty T, dp_ty h, kit_ty (kt d), q⟩
theorem isi_int {K : PySem.W.Frag} {H : Hp} {v : V} {d : PyData} {Q : VK} (h : Dp K H v d) (q : Q (.bl (isI d)) H) : rIsi K [v, .ty "int"] H Q := isi_of kit_int h q
theorem isi_bool {K : PySem.W.Frag} {H : Hp} {v : V} {d : PyData} {Q : VK} (h : Dp K H v d) (q : Q (.bl (isB d)) H) : rIsi K [v, .ty "bool"] H Q := isi_of kit_bool h q
theorem isi_list {K : PySem.W.Frag} {H : Hp} {v : V} {d : PyData} {Q : VK} (h : Dp K H v d) (q : Q (.bl (isL d)) H) : rIsi K [v, .ty "list"] H Q := isi_of kit_list h q
theorem isi_tuple {K : PySem.W.Frag} {H : Hp} {v : V} {d : PyData} {Q : VK} (h : Dp K H v d) (q : Q (.bl (isT d)) H) : rIsi K [v, .ty "tuple"] H Q := isi_of kit_tuple h q
/-- isinstance(x, (T, U)) -/
theorem isi_two {K : PySem.W.Frag} {H : Hp} {v : V} {d : PyData} {T U : String} {f g : PyData → Bool} {tp : Addr} {Q : VK} (kf : ∀ d, kitB (tyD d) T = some (f d)) (kg : ∀ d, kitB (tyD d) U = some (g d)) (h : Dp K H v d) (ht : H tp = some (.tup [.ty T, .ty U])) (q : Q (.bl (f d || g d)) H) :
    rIsiT K [v, .ref tp] H Q := by
  refine ⟨v, tp, _, _, [.type T, .type U], f d || g d, rfl, ht, .cons (.ty T) (.cons (.ty U) .nil), dp_ty h, ?_, q⟩
  refine kitAny_cons (kit_ty (kf d)) (fun e => ?_) (fun e => by rw [e]; rfl)
  refine kitAny_cons (kit_ty (kg d)) (fun e2 => ?_) (fun e2 => by rw [e2]; simp)
  rw [e, e2]; rfl
/-- the built-ins that the text uses and leaves alone -/
structure B0 (mg : Str → Option Value) : Prop where
  isinstance : mg "isinstance" = none
  int : mg "int" = none
  bool : mg "bool" = none
  list : mg "list" = none
  tuple : mg "tuple" = none
  len : mg "len" = none
  enumerate : mg "enumerate" = none
  abs : mg "abs" = none
  zip : mg "zip" = none
  all : mg "all" = none
  range : mg "range" = none
  min : mg "min" = none
section
variable {X : Cx} {p : Pos}
theorem pe_int_ (hg : Gl X "int") (h : X.mg "int" = none) : PE X (.Name "int" p) (tC (.ty "int")) := pe_bltn hg h PyProof.Rows.boot_int rfl
theorem pe_bool_ (hg : Gl X "bool") (h : X.mg "bool" = none) : PE X (.Name "bool" p) (tC (.ty "bool")) := pe_bltn hg h PyProof.Rows.boot_bool rfl
theorem pe_list_ (hg : Gl X "list") (h : X.mg "list" = none) : PE X (.Name "list" p) (tC (.ty "list")) := pe_bltn hg h PyProof.Rows.boot_list rfl
theorem pe_tuple_ (hg : Gl X "tuple") (h : X.mg "tuple" = none) : PE X (.Name "tuple" p) (tC (.ty "tuple")) := pe_bltn hg h PyProof.Rows.boot_tuple rfl
end
end Hs

set_option Elab.async false
set_option linter.all false
set_option maxRecDepth 100000
set_option maxHeartbeats 4000000
/-! sorted, min, max of a tuple of ints; a tuple from behind. -/
namespace Hs
open PySem PySem.Spec PyProof.Rows L2 PySem.W
section
variable {prog : Program} {w : World} {A : Around} {E : Value → Shared → Prop} {s : Shared}
abbrev collH (h : Heap) (vs : List Value) : Heap := (h.push (seqObj "list" #[] 0)).update h.objs.size (Obj.mapSeq (· ++ vs.toArray))
theorem collect_tup {l : Addr} {vs : List Value} {Q : List Value → Shared → Prop} (hl : IsTup s.heap l vs.toArray) (h : Q vs { s with heap := collH s.heap vs }) (hsz : vs.length ≤ sizeLine) : wpAny (model prog w) A (collect (.ref l)) Q E s := by
  obtain ⟨o, ho, hc, n, hd⟩ := id hl
  unfold collect
  refine wpAny_bind (wpAny_runValue (codeAny_builtin entry_proto_collect' ?_))
  show wpAny _ _ (do again (.builtin "list.__iadd__" ⟨[← newList [], .ref l], []⟩)) _ _ s
  refine wpAny_bind (wpAny_newList (wpAny_pure ⟨Code.quiet_builtin _ (by decide +kernel), codeAny_builtin entry_list_iadd' ?_⟩))
  show wpAny _ _ (Builtin.List.listExtendWith (.ref s.heap.objs.size) (.ref l) (.ref s.heap.objs.size)) _ _ { s with heap := s.heap.push (seqObj "list" #[] 0) }
  unfold Builtin.List.listExtendWith
  have there : (s.heap.push (seqObj "list" #[] 0)).get? l = some o := Heap.get?_push_of_some _ ho
  have fresh : (s.heap.push (seqObj "list" #[] 0)).get? s.heap.objs.size = some (seqObj "list" #[] 0) := Heap.get?_push_size _ rfl
  refine wpAny_bind (wpAny_typeOf (T := "tuple") ⟨o, there, hc⟩ ?_)
  rw [if_pos (by rw [show (Value.type "tuple" == Value.type "tuple") = true from rfl]; simp)]
  refine wpAny_bind (listItems_at there hd (wpAny_bind (listItems_at (xs := #[]) (n := 0) fresh rfl ?_)))
  rw [if_neg (by simp)]
  refine wpAny_bind (listUpdate_at (xs := #[]) (n := 0) fresh rfl (wpAny_pure ?_) (Nat.zero_le _) ?_)
  · show wpAny (model prog w) A (do
        let o ← load s.heap.objs.size
        match o.data with | .seq xs _ => pure xs.toList | _ => unsupported "internal:collect") Q E { s with heap := collH s.heap vs }
    refine wpAny_bind (wpAny_load (get?_update_seq fresh _) ?_)
    show wpAny _ _ (pure ((#[] : Array Value) ++ vs.toArray).toList) Q E _
    rw [show ((#[] : Array Value) ++ vs.toArray).toList = vs by simp]
    exact wpAny_pure h
  · show (#[] ++ vs.toArray).size ≤ sizeLine + 1
    simp only [Array.size_append, List.size_toArray, List.length_nil]; omega
theorem sorted_tupI {l : Addr} {vs : List Value} {ns : List Int} {Q : Value → Shared → Prop} (hl : IsTup s.heap l vs.toArray) (hI : IntsAre vs ns) (h64 : vs.length < 64)
    (h : ∀ (out : Array Value) (ms : List Int), IntsAre out.toList ms → ms.Perm ns → ms.Pairwise (· ≤ ·) → Q (.ref (s.heap.objs.size + 1)) { s with heap := sortedAll s.heap vs out }) : wpAny (model prog w) A (call (.builtin "sorted") [.ref l]) Q E s := by
  refine Calls.call_function_entry kind_sorted plain_sorted entry_sorted (args_sorted1 _) ?_
  unfold Builtin.«sorted»
  refine wpAny_bind (m := checkCount "sorted" 1 1 _) (wpAny_pure (wpAny_bind (collect_tup hl (wpAny_bind (wpAny_newList ?_)) (by rw [sizeLine_eq]; omega))))
  have hz : (collH s.heap vs).objs.size = s.heap.objs.size + 1 := by rw [Heap.size_update, size_push']
  have made : ((collH s.heap vs).push (seqObj "list" vs.toArray 0)).get? (s.heap.objs.size + 1) = some (seqObj "list" vs.toArray 0) := by rw [← hz]; exact Heap.get?_push_size _ rfl
  show wpAny _ _ _ _ _ { s with heap := (collH s.heap vs).push (seqObj "list" vs.toArray 0) }
  rw [hz]
  refine wpAny_bind (wpAny_holding (wpAny_call_entry slot_list_sort ⟨_, made, rfl⟩ entry_list_sort (list_sort_tree made hI h64 fun out ms a1 a2 a3 => ⟨_, rfl, wpAny_pure ⟨_, rfl, h out ms a1 a2 a3⟩⟩) (args_list_sort _)))
end
section
variable {X : Cx}
/-- sorted(t), t a tuple or a list of ints -/
theorem cr_sortedA : CallR X (.builtin "sorted") (fun vs H Q => ∃ (a : Addr) (ns : List Int), vs = [V.ref a] ∧ (SqT X.K H a (ns.map V.int) ∨ SqL X.K H a (ns.map V.int)) ∧ ns.length < 64 ∧ ∀ (ms : List Int) (p : Addr), ms.Perm ns → ms.Pairwise (· ≤ ·) → H p = none → Q (.ref p) (upd H p (.lst (ms.map V.int)))) := by
  intro pins s σ H vs us Q I r h
  obtain ⟨a, ns, rfl, hs, h64, q⟩ := h
  rcases hs with hs | hs
  · obtain ⟨its, rv, hl, _⟩ := I.tuple hs
    rw [Vals.ref1 r]
    have hi := rv.ints
    refine sorted_tupI hl hi (by rw [hi.length]; exact h64) fun out ms h1 h2 h3 => ?_
    obtain ⟨ep, he⟩ := PyProof.Rows.sortedAll_at s.heap its out
    have hz : (ms.map V.int).length ≤ sizeLine := by rw [List.length_map, h2.length_eq]; exact small64 h64
    exact ⟨.ref _, upd H (s.heap.objs.size + 1) (.lst (ms.map V.int)), I.laid (t' := s.toks) (fun _ _ => PyProof.Rows.sortedAll_old) (Nat.le_succ _) ⟨hz, out.toList, ep, vals_of_ints h1, he⟩, rfl, q ms _ h2 h3 (I.hok.fresh (Nat.le_succ _))⟩
  · exact cr_sorted pins s σ H _ us Q I r ⟨a, ns, rfl, hs, h64, q⟩
end

/-! ### min and max of a pair of ints -/
section
variable {X : Cx}
theorem holds_is {h : Heap} {v : Value} {n : Int} (H : Holds h v n) : ∃ t, v = .int n t := by
  obtain ⟨as, r⟩ := H
  cases r
  exact ⟨_, rfl⟩
theorem cr_min2T (hc : X.calm = true) (hu : X.A.units + 64 < cLine) : CallR X (.builtin "min") (fun vs H Q => ∃ (a : Addr) (i j : Int), vs = [V.ref a] ∧ SqT X.K H a [.int i, .int j] ∧ Q (.int (if j < i then j else i)) H) := by
  intro pins s σ H vs us Q I r h
  obtain ⟨a, i, j, rfl, hs, q⟩ := h
  obtain ⟨its, rv, hl, _⟩ := I.tuple hs
  rw [Vals.ref1 r]
  have hi : IntsAre its [i, j] := rv.ints (ns := [i, j])
  refine min_tuple_datum (x := i) (xs := [j]) (I.ok.hd hc) hl (by simpa using HoldAll.of_ints hi) (by show X.A.units + 1 + 0 < cLine; omega) fun k v h' tk hv hh hk => ?_
  obtain ⟨t, rfl⟩ := holds_is hh
  have e : minOf i [j] = if j < i then j else i := by
    show (if decide (j < i) = true then j else i) = _
    by_cases c : j < i
    · rw [if_pos (decide_eq_true c), if_pos c]
    · rw [if_neg (by rw [decide_eq_false c]; exact Bool.false_ne_true), if_neg c]
  exact ⟨.int _, H, I.kept (t' := tk) hk, ⟨t, rfl⟩, by rw [e]; exact q⟩
theorem cr_max2T (hc : X.calm = true) (hu : X.A.units + 64 < cLine) : CallR X (.builtin "max") (fun vs H Q => ∃ (a : Addr) (i j : Int), vs = [V.ref a] ∧ SqT X.K H a [.int i, .int j] ∧ Q (.int (if i < j then j else i)) H) := by
  intro pins s σ H vs us Q I r h
  obtain ⟨a, i, j, rfl, hs, q⟩ := h
  obtain ⟨its, rv, hl, _⟩ := I.tuple hs
  rw [Vals.ref1 r]
  have hi : IntsAre its [i, j] := rv.ints (ns := [i, j])
  refine max_tuple_datum (x := i) (xs := [j]) (I.ok.hd hc) hl (by simpa using HoldAll.of_ints hi) (by show X.A.units + 1 + 0 < cLine; omega) fun k v h' tk hv hh hk => ?_
  obtain ⟨t, rfl⟩ := holds_is hh
  have e : maxOf i [j] = if i < j then j else i := by
    show (if decide (i < j) = true then j else i) = _
    by_cases c : i < j
    · rw [if_pos (decide_eq_true c), if_pos c]
    · rw [if_neg (by rw [decide_eq_false c]; exact Bool.false_ne_true), if_neg c]
  exact ⟨.int _, H, I.kept (t' := tk) hk, ⟨t, rfl⟩, by rw [e]; exact q⟩
end
/-! ### t[::-1] -/
section
variable {prog : Program} {w : World} {A : Around} {E : Value → Shared → Prop} {s : Shared}
theorem adjust_rev (n : Nat) : Builtin.Slice.sliceAdjust none none (-1) (n : Int) = ((n : Int) - 1, -1) := by
  unfold Builtin.Slice.sliceAdjust
  simp only [show ((-1 : Int) < 0) from by decide, if_true]
theorem places_rev (n : Nat) : Builtin.Slice.slicePlaces ((n : Int) - 1) (-1) (-1) = n := by
  unfold Builtin.Slice.slicePlaces
  rw [if_neg (by decide)]
  have e : (-(-1 : Int)) = 1 := by decide
  rw [e]
  by_cases h : (n : Int) - 1 > -1
  · rw [if_pos h, Int.ediv_one]; omega
  · rw [if_neg h]; omega
theorem pick_rev (xs : Array Value) : ((List.range xs.size).filterMap fun (m : Nat) => xs[(((xs.size : Nat) : Int) - 1 + (m : Int) * (-1)).toNat]?) = xs.toList.reverse := by
  have key : ∀ k, k ≤ xs.size → ((List.range k).filterMap fun (m : Nat) => xs[(((xs.size : Nat) : Int) - 1 + (m : Int) * (-1)).toNat]?) = xs.toList.reverse.take k := by
    intro k
    induction k with
    | zero => intro _; rfl
    | succ k ih =>
      intro hk
      rw [List.range_succ, List.filterMap_append, ih (by omega), List.take_succ]
      congr 1
      have e : ((((xs.size : Nat) : Int) - 1 + (k : Int) * (-1)).toNat) = xs.size - 1 - k := by omega
      show (List.filterMap _ [k]) = _
      rw [List.filterMap_cons, e]
      have lt : xs.size - 1 - k < xs.size := by omega
      have e2 : xs.toList.reverse[k]? = xs[xs.size - 1 - k]? := by
        rw [List.getElem?_reverse (by rw [Array.length_toList]; omega), Array.length_toList, Array.getElem?_toList]
      rw [e2, Array.getElem?_eq_getElem lt]
      rfl
  rw [key xs.size (Nat.le_refl _)]
  exact List.take_of_length_le (by rw [List.length_reverse, Array.length_toList]; exact Nat.le_refl _)
theorem sliceApplied_rev {sl : Addr} {vl vu vs : Value} {n : Nat} {Q : Int × Int × Nat → Shared → Prop} (hs : s.heap.IsSliceOf sl vl vu vs) (pl : IsPart vl none) (pu : IsPart vu none) (ps : IsPart vs (some (-1))) (h : Q (((n : Int) - 1), -1, n) s) :
    wpAny (model prog w) A (Builtin.Slice.sliceApplied (.ref sl) (pure (n : Int))) Q E s := by
  obtain ⟨os, hos, hcs, hds⟩ := id hs
  unfold Builtin.Slice.sliceApplied Builtin.Slice.sliceFields
  refine wpAny_bind (wpAny_bind (wpAny_field hos hds (x := vl) rfl (wpAny_bind (wpAny_field hos hds (x := vu) rfl (wpAny_bind (wpAny_field hos hds (x := vs) rfl (wpAny_pure ?_)))))))
  refine wpAny_bind (HT.slicePart_ ps ?_)
  show wpAny _ _ (if ((-1 : Int) == 0) = true then _ else _) _ _ s
  rw [if_neg (by decide)]
  refine wpAny_bind (HT.slicePart_ pl (wpAny_bind (HT.slicePart_ pu (wpAny_bind (wpAny_pure ?_)))))
  show wpAny _ _ (match Builtin.Slice.sliceAdjust none none (-1) (n : Int) with | (lo, hi) => pure (lo, (-1 : Int), Builtin.Slice.slicePlaces lo hi (-1))) _ _ s
  rw [adjust_rev n]
  show wpAny _ _ (pure ((n : Int) - 1, (-1 : Int), Builtin.Slice.slicePlaces ((n : Int) - 1) (-1) (-1))) _ _ s
  rw [places_rev]
  exact wpAny_pure h
theorem getItem_tuple_rev {t sl : Addr} {items : Array Value} {vl vu vs : Value} {Q : Value → Shared → Prop} (ht : IsTup s.heap t items) (hs : s.heap.IsSliceOf sl vl vu vs) (pl : IsPart vl none) (pu : IsPart vu none) (ps : IsPart vs (some (-1)))
    (h : Q (.ref s.heap.objs.size) { s with heap := s.heap.push { cls := .type "tuple", data := .seq items.toList.reverse.toArray } }) (hsz : items.size ≤ sizeLine) : wpAny (model prog w) A (getItem (.ref t) (.ref sl)) Q E s := by
  have fits : sizeOk (.seq items.toList.reverse.toArray) := by
    show items.toList.reverse.toArray.size ≤ sizeLine
    rw [List.size_toArray, List.length_reverse, Array.length_toList]; exact hsz
  obtain ⟨os, hos, hcs, hds⟩ := id hs
  unfold getItem
  try with_reducible refine wpAny_holding ?_
  first | refine wpAny_bind (wpAny_pure ?_) | skip
  refine wpAny_bind (wpAny_sequenceKey ht.typeIs (by decide) (wpAny_bind (wpAny_callSpecial?_slot (name := Str.ofString "__getitem__") ht.typeIs PyProof.Rows.slot_tuple_getitem (wpAny_call_entry PyProof.Rows.slot_tuple_getitem ht.typeIs entry_tuple_getitem ?_ (args_tuple_getitem _ _)))))
  show wpAny _ _ (Builtin.Tuple.tupleItemsOf (.ref t) >>= _) _ _ s
  refine wpAny_bind (tupleItemsOf_ ht (wpAny_bind (wpAny_typeOf (T := "slice") ⟨os, hos, hcs⟩ ?_)))
  rw [if_pos (by decide)]
  refine wpAny_bind (sliceApplied_rev hs pl pu ps ?_)
  show wpAny _ _ (if ((((items.size : Nat) : Int) - 1) == 0 && (-1 : Int) == 1 && items.size == items.size) = true then _ else _) _ _ s
  rw [if_neg (by rw [show ((-1 : Int) == 1) = false from rfl]; simp), pick_rev]
  first
    | exact wpAny_bind (m := Builtin.Tuple.tupleExact _) (wpAny_newObj_type (wpAny_pure ⟨_, rfl, wpAny_pure h⟩) fits)
    | exact wpAny_bind (m := Builtin.Tuple.tupleExact _) (wpAny_newObj_type (wpAny_bind (wpAny_pure (wpAny_pure ⟨_, rfl, wpAny_pure h⟩))) fits)
    | exact wpAny_bind (wpAny_bind (m := Builtin.Tuple.tupleExact _) (wpAny_newObj_type (wpAny_pure (wpAny_pure ⟨_, rfl, wpAny_pure h⟩)) fits))
    | exact wpAny_bind (wpAny_bind (m := Builtin.Tuple.tupleExact _) (wpAny_newObj_type (wpAny_pure ⟨_, rfl, wpAny_pure h⟩) fits))
end
section
variable {X : Cx}
def tRevT (K : PySem.W.Frag) (te : TE) : TE := fun σ H Q => te σ H fun x G => ∃ a xs, x = .ref a ∧ SqT K G a xs ∧ ∀ p, G p = none → Q (.ref p) (upd G p (.tup xs.reverse))
theorem pe_revT {e : Expr} {te : TE} {k : Nat} {p1 p2 p3 pos : Pos} (he : PE X e te) : PE X (.Subscript e (.Slice none none (some (.UnaryOp .USub (.Constant (.int 1) k p1) p2)) p3) pos) (tRevT X.K te) := by
  refine ⟨fun pins s σ H Q I h => ?_⟩
  refine Subscript_ (thn (he.run pins s σ H _ I h) fun v s1 z => ?_)
  obtain ⟨x, H1, I1, r1, a, xs, ex, hx, q⟩ := z
  subst ex
  cases r1
  have step : PO X (some (.UnaryOp .USub (.Constant (.int 1) k p1) p2)) (tPart (tUn (rU fun i => .int (-i)) (tC (.int 1)))) := po_some (pe_un un_neg pe_int)
  refine wpAny_Slice (thn (po_none.run pins s1 σ H1 (fun o G => o = none ∧ G = H1) I1 ⟨rfl, rfl⟩) fun vl s2 z2 => ?_)
  obtain ⟨l, H2, I2, pl, rfl, rfl⟩ := z2
  refine thn (po_none.run pins s2 σ H2 (fun o G => o = none ∧ G = H2) I2 ⟨rfl, rfl⟩) fun vu s3 z3 => ?_
  obtain ⟨u, H3, I3, pu, rfl, rfl⟩ := z3
  refine thn (step.run pins s3 σ H3 (fun o G => o = some (-1) ∧ G = H3) I3 ⟨1, rfl, -1, rfl, rfl, rfl⟩) fun vs s4 z4 => ?_
  obtain ⟨o, H4, I4, ps, rfl, rfl⟩ := z4
  have I5 : Inv X pins σ H4 { s4 with heap := s4.heap.push { cls := .type "slice", data := .fields #[vl, vu, vs] } } := I4.kept (t' := s4.toks) fun b ob y => Heap.get?_push_of_some _ y
  obtain ⟨its, r, ht, hz⟩ := I5.tuple hx
  have hlen := r.length
  show wpAny (model X.prog X.w) X.A (subscriptTail e (.Slice none none (some (.UnaryOp .USub (.Constant (.int 1) k p1) p2)) p3) (.ref a) (.ref s4.heap.objs.size)) (EP X pins σ Q) X.xe { s4 with heap := s4.heap.push { cls := .type "slice", data := .fields #[vl, vu, vs] } }
  refine tail_any (ops := [.ref a, .ref s4.heap.objs.size]) ht.typeIs PyProof.Rows.slot_tuple_getitem.lookup ?_ (by with_unfolding_all rfl)
  refine getItem_tuple_rev ht (Heap.IsSliceOf.new _ vl vu vs) pl pu ps ?_ (by rw [List.size_toArray]; omega)
  refine ⟨.ref _, _, I5.laid (t' := s4.toks) (o := .tup xs.reverse) (fun b ob y => Heap.get?_push_of_some _ y) (Nat.le_refl _) ?_, rfl, q _ (I5.hok.fresh (Nat.le_refl _))⟩
  exact ⟨by rw [List.length_reverse]; exact hz, _, by simpa using r.reverse, IsTup.new _ _⟩
end
end Hs

set_option Elab.async false
set_option linter.all false
set_option maxRecDepth 100000
set_option maxHeartbeats 4000000
/-! A def called by keywords alone. -/
namespace Hs
open PySem PySem.Spec PyProof.Rows L2
/-- how keywords alone bind: gp puts their values in the parameters' order -/
structure KOnly (fd : FuncData) (ps ks : List Str) (gp : {α : Type} → List α → List α) : Prop where
  to : ∀ (s : Shared) (ws : List Value), ws.length = ks.length → BindsTo s fd ⟨[], ks.zip ws⟩ (ps.zip (gp ws))
  rel : ∀ {zs : List V} {ws : List Value}, Vals zs ws → zs.length = ks.length → Vals (gp zs) (gp ws)
theorem konly1 {K : PySem.W.Frag} {x qual : Str} {st : Stmt} {f : Addr} {fd : FuncData} {p : Str} (F : Fun K x qual st f fd)
    (h : ∀ (kV doc pm : Value) (an : Option Addr) (cdv ct u : Value), bindArgs (PySem.W.fnOf x qual (defArgs st) (defBody st) (defScope st) .none kV doc pm an cdv ct) ⟨[], [(p, u)]⟩ = pure [(p, u)]) : KOnly fd [p] [p] (fun l => l) := by
  obtain ⟨oc, od, kV, doc, pm, an, cdv, ct, osl, rfl, lk, hcd⟩ := F.ex
  refine ⟨fun s ws hl => ?_, fun r _ => r⟩
  match ws, hl with
  | [u], _ => exact .of_eq (h kV doc pm an cdv ct u)
def swap2 {α : Type} : List α → List α
  | [a, b] => [b, a]
  | l => l
theorem konly2 {K : PySem.W.Frag} {x qual : Str} {st : Stmt} {f : Addr} {fd : FuncData} {p q : Str} (F : Fun K x qual st f fd)
    (h : ∀ (kV doc pm : Value) (an : Option Addr) (cdv ct u v : Value), bindArgs (PySem.W.fnOf x qual (defArgs st) (defBody st) (defScope st) .none kV doc pm an cdv ct) ⟨[], [(q, u), (p, v)]⟩ = pure [(p, v), (q, u)]) : KOnly fd [p, q] [q, p] swap2 := by
  obtain ⟨oc, od, kV, doc, pm, an, cdv, ct, osl, rfl, lk, hcd⟩ := F.ex
  refine ⟨fun s ws hl => ?_, fun {zs ws} r hl => ?_⟩
  · match ws, hl with
    | [u, v], _ => exact .of_eq (h kV doc pm an cdv ct u v)
  · match zs, hl with
    | [a, b], _ =>
      cases r with
      | cons r1 r =>
        cases r with
        | cons r2 r =>
          cases r
          exact .cons r2 (.cons r1 .nil)
def tKw0 (sp : Sp) (n : Nat) (gp : List V → List V) (E : XK) (tk : TA) : TE := fun σ H Q => tk σ H fun zs G => zs.length = n ∧ sp (gp zs) G Q E
section
variable {X : Cx} {CX : CXT} {k : Nat} {f : Addr} {fd : FuncData} {ps ks : List Str} {sp : Sp} {E : XK} {x : Str} {p pos : Pos} {kws : List Keyword} {tk : TA} {gp : {α : Type} → List α → List α}
theorem pe_kw0 (F : FnOk X.prog X.w X.K X.mg X.base CX k f fd ps sp) (hr : Room k X.A) (hg : Gl X x) (hm : X.mg x = some (.ref f)) (hk : PySem.W.keepIn X.K (.ref f) = true) (hb : KOnly fd ps ks gp) (hx : Passes CX X E) (hkw : PK X kws tk)
    (hall : (backToKw pos (keywordEach kws X.env)).all (·.1.isSome) = true := by rfl) (hks : (backToKw pos (keywordEach kws X.env)).filterMap (·.1) = ks := by rfl) (hdb : (x == ("__debug__" : Str)) = false := by decide)
    (hpl : ((backTo pos (starEach [] X.env)).any (·.1) || (backToKw pos (keywordEach kws X.env)).any (·.1.isNone)) = false := by rfl) :
    PE X (.Call (.Name x p) [] kws pos) (tKw0 sp ks.length gp E tk) := by
  refine ⟨fun pins s σ H Q I h => ?_⟩
  refine wpAny_Call_Name_kw (ld_glob I hg hm ?_ hdb)
  refine PySem.W.callWith_KW0 (h₀ := X.base) I.ok.mod.kin hk hall (thn (hkw.run pos pins s σ H _ I h) fun ws s2 z => ?_) hpl
  obtain ⟨zs, G, J, rz, hl, q2⟩ := z
  refine ⟨J.kIn, ?_⟩
  rw [hks]
  have lw : ws.length = ks.length := by rw [← rz.length]; exact hl
  refine wpAny_call (codeAny_mono (F.run X.A X.stack s2 G ⟨[], ks.zip ws⟩ (gp ws) (gp zs) Q E hr J.env0 (hb.to s2 ws lw) (hb.rel rz hl) q2) fun r s' hq => ?_)
  cases r with
  | error er => exact hx pins σ G s2 er s' J hq
  | ok fl =>
    cases fl with
    | ret u => exact J.after hq
    | next => exact False.elim hq
    | brk => exact False.elim hq
    | cont => exact False.elim hq
end
section
variable {X : Cx}
/-- t[lo:hi], whether it is t itself or a new tuple -/
theorem sl_tupU : SlR X (fun x lo hi H Q => ∃ a xs, x = .ref a ∧ SqT X.K H a xs ∧ ∀ p G, Same H G → SqT X.K G p (cutV xs lo hi) → Q (.ref p) G) := by
  intro pins s σ H x v vl vu lo hi sl Q I rx hs pl pu h
  obtain ⟨a, xs, rfl, hx, q⟩ := h
  refine sl_tupA pins s σ H (.ref a) v vl vu lo hi sl Q I rx hs pl pu ⟨a, xs, rfl, hx, fun hw => ?_, fun _ p np => q p _ (same_new np) (SqT.of upd_same)⟩
  refine q a H (Same.refl _) ?_
  have e : cutV xs lo hi = xs := by
    unfold cutV
    rw [hw.1, hw.2, List.drop_zero, Nat.sub_zero, List.take_length]
  rw [e]; exact hx
/-- t + u, whether it is one of them or a new tuple -/
theorem op_catU : OpR X (binaryOp .Add) (fun x y H Q => ∃ a b xs ys, x = .ref a ∧ y = .ref b ∧ SqT X.K H a xs ∧ SqT X.K H b ys ∧ xs.length + ys.length ≤ sizeLine ∧ ∀ p G, Same H G → SqT X.K G p (xs ++ ys) → Q (.ref p) G) := by
  intro pins s σ H x y v u Q I rx ry h
  obtain ⟨a, b, xs, ys, rfl, rfl, ha, hb, hz, q⟩ := h
  refine op_catA pins s σ H (.ref a) (.ref b) v u Q I rx ry ⟨a, b, xs, ys, rfl, rfl, ha, hb, hz, fun e => ?_, fun _ e => ?_, fun _ _ p np => q p _ (same_new np) (SqT.of upd_same)⟩
  · refine q b H (Same.refl _) ?_
    rw [e]; exact hb
  · refine q a H (Same.refl _) ?_
    rw [e, List.append_nil]; exact ha
end
end Hs

set_option Elab.async false
set_option linter.all false
set_option maxRecDepth 100000
set_option maxHeartbeats 4000000
/-! Own error classes over any built-in error: made by position and by name, their fields stored and read, isinstance of them. -/
namespace Hs
open PySem PySem.Spec PyProof.Rows L2
section
variable {M : Model} {A : Around} {E : Value → Shared → Prop} {h : Heap} {g : Array GenState} {d : Drawn} {t : Nat} {os : OsState}
variable {nm qn : Str} {C N : Addr} {bs bm bmB : List Value} {hdct : Bool} {sn : List Str} {sub : List Value} {ab : Bool} {col : Option Bool} {dd : Option Addr} {k0 k1 k2 k3 k5 : Option Value} {B newId initId : String} {rest : List Value} {kw : List (Str × Value)}
theorem chk_newK (F : ExcBaseFacts B newId initId bmB) (tail : ∀ Y : String, bm.contains (.type Y) = bmB.contains (.type Y)) {Q : Unit → Shared → Prop} (cl : h.get? C = some (excClassObj nm qn C N bs bm hdct sn sub ab col dd k0 k1 k2 k3 k5 newId)) (fin : Q () ⟨h, g, d, t, os⟩) :
    wpAny M A (checkBuiltinCall newId ⟨.ref C :: rest, kw⟩) Q E ⟨h, g, d, t, os⟩ := by
  have inB : (Value.ref C :: bm).contains (.type B) = true := by rw [List.contains_cons, tail, F.hasB, Bool.or_true]
  have st := F.noStar
  simp only [checkBuiltinCall, F.newKind, F.newSplit, F.newRow]
  repeat (first | refine wpAny_loadPart_at cl ?_ | (refine wpAny_isSubtype_exc cl ?_; rw [inB]) | refine wpAny_staticBase_exc cl ?_ | refine wpAny_madeBy_exc cl ?_ | simp only [bne_self_eq_false, Bool.false_eq_true, if_false] | wp_step)
  exact fin
theorem chk_tcK {Q : Unit → Shared → Prop} (cl : h.get? C = some (excClassObj nm qn C N bs bm hdct sn sub ab col dd k0 k1 k2 k3 k5 newId)) (fin : Q () ⟨h, g, d, t, os⟩) : wpAny M A (checkBuiltinCall "type.__call__" ⟨.ref C :: rest, kw⟩) Q E ⟨h, g, d, t, os⟩ := by
  have z := tc_sub
  have ty : (⟨h, g, d, t, os⟩ : Shared).TypeIs (.ref C) "type" := ⟨_, cl, rfl⟩
  simp only [checkBuiltinCall, tc_kind, tc_split]
  repeat (any_goals (first | assumption | with_reducible refine wpAny_loadPart_at cl ?_ | with_reducible refine wpAny_onRaise ?_ | with_reducible refine wpAny_map ?_ | wp_step))
end
section
variable {prog : Program} {w : World} {A : Around} {E : Value → Shared → Prop} {R : Result → Shared → Prop} {h : Heap} {g : Array GenState} {d : Drawn} {t : Nat} {os : OsState}
variable {nm qn : Str} {C N : Addr} {bs bm bmB : List Value} {hdct : Bool} {sn : List Str} {sub : List Value} {ab : Bool} {col : Option Bool} {dd : Option Addr} {k0 k1 k2 k3 k5 : Option Value} {B newId initId : String} {rest : List Value} {kw : List (Str × Value)}
/-- a new error of the class at C, its args the tuple at t1 -/
abbrev exN (C t1 : Addr) : Obj := HandSPX.excO C t1
theorem newK (F : ExcBaseFacts B newId initId bmB) (tail : ∀ Y : String, bm.contains (.type Y) = bmB.contains (.type Y)) (cl : h.get? C = some (excClassObj nm qn C N bs bm hdct sn sub ab col dd k0 k1 k2 k3 k5 newId))
    (fin : R (.ok (.ret (.ref (h.objs.size + 1)))) ⟨(h.push (PySem.W.kdv_tup rest)).push (exN C h.objs.size), g, d, t, os⟩) (sz : rest.length ≤ sizeLine) :
    codeAny (model prog w) A (.builtin newId ⟨.ref C :: rest, kw⟩) R ⟨h, g, d, t, os⟩ := by
  have en := F.ends
  have i1 : (Value.ref C :: bm).contains (.type B) = true := by rw [List.contains_cons, tail, F.hasB, Bool.or_true]
  have i2 : (Value.ref C :: bm).contains (.type "AttributeError") = false := by rw [List.contains_cons, tail, F.noAttr]; rfl
  have i3 : (Value.ref C :: bm).contains (.type "NameError") = false := by rw [List.contains_cons, tail, F.noName]; rfl
  refine codeAny_builtinAt F.entry ?_
  unfold Builtin.«BaseException.__new__»
  refine PySem.wpAt_bind ?_
  show PySem.wpAt _ _ _ (stack >>= _) _ _ _
  refine PySem.wpAt_bind (PySem.wpAt_stack fun p below => PySem.wpAt_of_wpAny ?_)
  wp_walk
  refine PySem.wpAt_of_wpAny ?_
  rw [F.owner]
  repeat (first | with_reducible refine wpAny_madeHere_exc F.canon cl ?_ | with_reducible refine wpAny_loadPart_at cl ?_ | (with_reducible refine wpAny_isSubtype_exc cl ?_; first | rw [i1] | rw [i2] | rw [i3]) | wp_step)
  show R _ _
  rw [Heap.size_push]
  exact fin
theorem tcallK (F : ExcBaseFacts B newId initId bmB) (tail : ∀ Y : String, bm.contains (.type Y) = bmB.contains (.type Y)) {fI : Addr} {Q : Fin → Shared → Prop} (cl : h.get? C = some (excClassObj nm qn C N bs bm hdct sn sub ab col dd k0 k1 k2 k3 k5 newId))
    (ini : PySem.W.Looks (model prog w) h (typeLookup (.ref C) "__init__") (some (.ref fI))) (bnd : ∀ self, PySem.W.Looks (model prog w) h (bindSpecial (.ref fI) self) (.ref fI, [self])) (sz : rest.length ≤ sizeLine)
    (fin : codeAny (model prog w) A (.call (.ref fI) ⟨.ref (h.objs.size + 1) :: rest, kw⟩) (fun r s' => match r with | .ok (.ret v) => v = .none ∧ Q (.done (.ret (.ref (h.objs.size + 1)))) s' | .ok _ => False | .error e => E e s')
      ⟨(h.push (PySem.W.kdv_tup rest)).push (exN C h.objs.size), g, d, t, os⟩) :
    wpAny (model prog w) A (Builtin.«type.__call__» ⟨.ref C :: rest, kw⟩) Q E ⟨h, g, d, t, os⟩ := by
  repeat (first | with_reducible refine wpAny_loadPart_at cl ?_ | with_reducible refine wpAny_madeBy_exc cl ?_ | wp_step)
  refine codeAny_call_builtin_code (Code.quiet_builtin _ F.quiet) (chk_newK F tail cl ?_)
  refine newK F tail cl ?_ sz
  show wpAny _ _ _ _ _ _
  have kp : ∀ b o, h.get? b = some o → ((h.push (PySem.W.kdv_tup rest)).push (exN C h.objs.size)).get? b = some o := fun b o e => Heap.get?_push_of_some _ (Heap.get?_push_of_some _ e)
  have cl1 := kp _ _ cl
  have at1 : ((h.push (PySem.W.kdv_tup rest)).push (exN C h.objs.size)).get? (h.objs.size + 1) = some (exN C h.objs.size) := by heap_get
  have own : (Value.ref C :: bm).contains (.ref C) = true := by simp
  have L1 := ini.keeps kp
  have L2 := (bnd (.ref (h.objs.size + 1))).keeps kp
  unfold isInstance
  repeat (first | with_reducible refine wpAny_loadPart_at at1 ?_ | (with_reducible refine wpAny_isSubtype_exc cl1 ?_; rw [own]) | wp_step)
  show wpAny _ _ (typeLookup (.ref C) _) _ _ _
  refine L1.at ?_
  refine wpAny_holding (wpAny_bind (L2.at ?_))
  refine wpAny_bind (wpAny_call (codeAny_mono fin fun r s' z => ?_))
  rcases r with e | (v | _ | _ | _) <;> first | exact z | exact z.elim | skip
  obtain ⟨rfl, z⟩ := z
  first | exact wpAny_pure (wpAny_pure z) | (wp_walk; exact z)
theorem ownK (F : ExcBaseFacts B newId initId bmB) (tail : ∀ Y : String, bm.contains (.type Y) = bmB.contains (.type Y)) {fI : Addr} (cl : h.get? C = some (excClassObj nm qn C N bs bm hdct sn sub ab col dd k0 k1 k2 k3 k5 newId))
    (ini : PySem.W.Looks (model prog w) h (typeLookup (.ref C) "__init__") (some (.ref fI))) (bnd : ∀ self, PySem.W.Looks (model prog w) h (bindSpecial (.ref fI) self) (.ref fI, [self])) (sz : rest.length ≤ sizeLine)
    (fin : codeAny (model prog w) (A.under (.builtin "type.__call__" ⟨.ref C :: rest, kw⟩)) (.call (.ref fI) ⟨.ref (h.objs.size + 1) :: rest, kw⟩) (PySem.W.InitBack (h.objs.size + 1) R) ⟨(h.push (PySem.W.kdv_tup rest)).push (exN C h.objs.size), g, d, t, os⟩) :
    codeAny (model prog w) A (.call (.ref C) ⟨rest, kw⟩) R ⟨h, g, d, t, os⟩ := by
  have f1 := tc_lookup
  have f2 := tc_bind (.ref C)
  have ty : (⟨h, g, d, t, os⟩ : Shared).TypeIs (.ref C) "type" := ⟨_, cl, rfl⟩
  refine codeAny_of_tree ?_
  show wpAny _ _ (callAny (.ref C) _) _ _ _
  repeat (any_goals (first | assumption | with_reducible refine wpAny_loadPart_at cl ?_ | wp_step))
  refine ⟨rfl, ?_⟩
  refine codeAny_call_builtin_at (Code.quiet_builtin _ (by decide +kernel)) entry_typeCall (chk_tcK cl (tcallK F tail cl ini bnd sz ?_))
  refine codeAny_mono fin fun r s' z => ?_
  rcases r with e | (v | _ | _ | _) <;> exact z
end
end Hs

set_option Elab.async false
set_option linter.all false
set_option maxRecDepth 100000
set_option maxHeartbeats 4000000
/-! What an own error class says, all in one look; stores, reads, isinstance, and the making of its errors. -/
namespace Hs
open PySem PySem.Spec PyProof.Rows L2
def exB (K : PySem.W.Frag) (C : Addr) (bmB : List Value) (newId : String) : Bool :=
  PySem.W.excInitIn K C bmB newId && (PySem.W.excOver K C bmB && (PySem.W.hasDictIn K C && (PySem.W.keepIn K (.ref C) &&
  (decide (PySem.W.findIn K (.ref C) "__setattr__" = some (some (.builtin "object.__setattr__"))) && (decide (PySem.W.findIn K (.ref C) "__getattribute__" = some (some (.builtin "BaseException.__getattribute__"))) &&
  (decide (PySem.W.findIn K (.ref C) "__getattr__" = some none) && (decide (PySem.W.subIn K (.ref C) (.type "BaseException") = some true) && (decide (PySem.W.typeIn K (.ref C) = some (.type "type")) &&
  (decide (PySem.W.findIn K (.ref C) "__class__" = some (some (.builtin "object.__class__"))) && (decide (PySem.W.specialIn K (.builtin "object.__class__") "__get__" = some (some (.builtin "getset_descriptor.__get__"))) &&
  (decide (PySem.W.takesIn K (.builtin "object.__class__") = some true) && decide (PySem.W.mroIn K C (.type "object") = some true))))))))))))
/-- the class at C is an own error class over one of the built-in ones -/
structure EX (K : PySem.W.Frag) (C : Addr) : Prop where
  base : ∃ B newId initId bmB, ExcBaseFacts B newId initId bmB ∧ StoreFacts B bmB "object.__setattr__" "object" ∧ PySem.W.excInitIn K C bmB newId = true ∧ PySem.W.excOver K C bmB = true
  hd : PySem.W.hasDictIn K C = true
  kp : PySem.W.keepIn K (.ref C) = true
  sa : PySem.W.findIn K (.ref C) "__setattr__" = some (some (.builtin "object.__setattr__"))
  ga : PySem.W.findIn K (.ref C) "__getattribute__" = some (some (.builtin "BaseException.__getattribute__"))
  gg : PySem.W.findIn K (.ref C) "__getattr__" = some none
  ex : PySem.W.subIn K (.ref C) (.type "BaseException") = some true
  ty : PySem.W.typeIn K (.ref C) = some (.type "type")
  ca : PySem.W.findIn K (.ref C) "__class__" = some (some (.builtin "object.__class__"))
  cg : PySem.W.specialIn K (.builtin "object.__class__") "__get__" = some (some (.builtin "getset_descriptor.__get__"))
  ct : PySem.W.takesIn K (.builtin "object.__class__") = some true
  mo : PySem.W.mroIn K C (.type "object") = some true
theorem ex_of {K : PySem.W.Frag} {C : Addr} {B newId initId : String} {bmB : List Value} (b : ExcBaseFacts B newId initId bmB) (s : StoreFacts B bmB "object.__setattr__" "object") (h : exB K C bmB newId = true) : EX K C := by
  obtain ⟨h1, h⟩ := Bool.and_eq_true_iff.mp h
  obtain ⟨h2, h⟩ := Bool.and_eq_true_iff.mp h
  obtain ⟨h3, h⟩ := Bool.and_eq_true_iff.mp h
  obtain ⟨h4, h⟩ := Bool.and_eq_true_iff.mp h
  obtain ⟨h5, h⟩ := Bool.and_eq_true_iff.mp h
  obtain ⟨h6, h⟩ := Bool.and_eq_true_iff.mp h
  obtain ⟨h7, h⟩ := Bool.and_eq_true_iff.mp h
  obtain ⟨h8, h⟩ := Bool.and_eq_true_iff.mp h
  obtain ⟨h9, h⟩ := Bool.and_eq_true_iff.mp h
  obtain ⟨ha, h⟩ := Bool.and_eq_true_iff.mp h
  obtain ⟨hb, h⟩ := Bool.and_eq_true_iff.mp h
  obtain ⟨hc, h⟩ := Bool.and_eq_true_iff.mp h
  exact ⟨⟨B, newId, initId, bmB, b, s, h1, h2⟩, h3, h4, of_decide_eq_true h5, of_decide_eq_true h6, of_decide_eq_true h7, of_decide_eq_true h8, of_decide_eq_true h9, of_decide_eq_true ha, of_decide_eq_true hb, of_decide_eq_true hc, of_decide_eq_true h⟩
section
open PySem.Builtin PySem.Builtin.ObjectAttr
variable {prog : Program} {w : World} {A : Around} {E : Value → Shared → Prop} {R : Result → Shared → Prop} {hp : Heap} {g : Array GenState} {d : Drawn} {t : Nat} {os : OsState} {B : String} {bmB : List Value}
/-- the first field of an error: its dict is made -/
theorem osaK {K : PySem.W.Frag} {f : Str} {tk : Tok} {v : Value} {x C : Addr} {fv : Array Value} (SF : StoreFacts B bmB "object.__setattr__" "object") (KX : K.In hp) (hx : hp.get? x = some { cls := .ref C, data := .fields fv }) (ov : PySem.W.excOver K C bmB = true) (hd : PySem.W.hasDictIn K C = true) (hno : PySem.W.findIn K (.ref C) f = some none)
    (fin : ∀ h' tk' dx, (∀ b o, b ≠ x → hp.get? b = some o → h'.get? b = some o) → hp.objs.size ≤ dx → dx ≠ x → h'.get? x = some { cls := .ref C, dict := some dx, data := .fields fv } → h'.Ns1 dx (fun y => if y = f then some v else none) → R (.ok (.ret .none)) ⟨h', g, d, tk', os⟩) :
    codeAny (model prog w) A (.call (.builtin "object.__setattr__") ⟨[.ref x, .str f tk, v], []⟩) R ⟨hp, g, d, t, os⟩ := by
  have tk0 : PySem.W.takerIn K C f = some none := by unfold PySem.W.takerIn; rw [hno]; rfl
  refine PySem.W.osa_openX (od := none) SF KX ⟨hx, rfl, rfl, trivial⟩ ov tk0 fun b => ?_
  obtain ⟨cd, hcd, hh⟩ := PySem.W.any_some hd
  have lk : PySem.W.Looks (model prog w) hp (classData C) cd := PySem.W.looks_clsIn KX hcd
  have xs : x ≠ hp.objs.size := Nat.ne_of_lt (Heap.lt_size hx)
  show wpAny _ _ (storeInOwnDict (.ref x) (.ref C) (.str f tk) f v b) _ _ _
  obtain ⟨nm, bs, mro, ns, qn, hd', sn, sb, ab, col, del⟩ := cd
  dsimp only at hh
  subst hh
  unfold storeInOwnDict ownDictForStores
  repeat (first | with_reducible refine HandSPX.store_in_new ?_ ?_ | with_reducible refine wpAny_loadPart_at hx ?_ | with_reducible refine lk.at ?_ | wp_step)
  · exact ⟨_, #[], _, (Heap.get?_update_ne _ _ _ _ xs.symm).trans (Heap.get?_push_at rfl rfl), rfl, fun e he => absurd he (by simp), fun _ => rfl⟩
  · intro h' tk' hn' hs
    have hx1 : (hp.push { cls := .type "dict", data := .dict #[] }).get? x = some { cls := .ref C, data := .fields fv } := Heap.get?_push_of_some _ hx
    refine fin h' tk' hp.objs.size (fun b o hb ho => ?_) (Nat.le_refl _) xs.symm ?_ hn'
    · exact (hs.2 b (Nat.ne_of_lt (Heap.lt_size ho))).trans ((Heap.get?_update_ne _ _ _ _ hb).trans (Heap.get?_push_of_some _ ho))
    · exact (hs.2 x xs).trans (Heap.get?_update_self _ hx1 rfl)
end
section
variable {X : Cx} {pins : List (Addr × Obj)} {σ : L2.St} {H : Hp} {s : Shared} {a C : Addr} {f : Str} {y : V} {u : Value} {Q : Unit → Shared → Prop} {E : Value → Shared → Prop} {A : Around}
/-- self.f = y, the first one -/
theorem ostK (T : EX X.K C) (I : Inv X pins σ H s) (e : H a = some (exo a C none)) (hno : PySem.W.findIn X.K (.ref C) f = some none) (ry : RelV y u)
    (fin : ∀ dx s', H dx = none → dx ≠ a → Inv X pins σ (upd (upd H dx (exd dx [(f, y)])) a (exo a C (some dx))) s' → Q () s') : wpAny (model X.prog X.w) A (setAttr (.ref a) f u) Q E s := by
  obtain ⟨B, newId, initId, bmB, _, SF, _, ov⟩ := T.base
  obtain ⟨t1, ho⟩ := exo_at I.hok e
  obtain ⟨hp, g, d, t, os⟩ := s
  refine PySem.W.set_plain I.kIn (ox := { cls := .ref C, dict := none, data := .fields #[.ref t1, .none, .none, .none, .bool false, .none] }) (od := none) ⟨ho, rfl, rfl, trivial⟩ T.sa ?_
  refine osaK SF I.kIn ho ov T.hd hno (fun h' tk' dx kp dn dne hx hn => ?_)
  have fr : H dx = none := I.hok.fresh dn
  have nd : ∀ {b : Addr} {o : Obj}, hp.get? b = some o → b ≠ dx := fun {b o} z => Nat.ne_of_lt (Nat.lt_of_lt_of_le (Heap.lt_size z) dn)
  have na : ∀ {b : Addr}, H b = none → b ≠ a := fun {b} n z => by rw [z, e] at n; cases n
  have up : ∀ {b : Addr} {o : HO}, H b = some o → b ≠ a → upd (upd H dx (exd dx [(f, y)])) a (exo a C (some dx)) b = some o := fun {b o} z n => by rw [upd_ne n, upd_ne (ne_of_none z fr)]; exact z
  have UN : Un X.fs [] H (upd (upd H dx (exd dx [(f, y)])) a (exo a C (some dx))) hp h' := {
    keep := fun b o z n _ _ => kp b o (na n) z
    slot := fun b o z n _ _ => ⟨o.slots, kp b o (na n) z⟩
    free := fun b o z n _ => (upd_ne (na n)).trans ((upd_ne (nd z)).trans n)
    there := fun b o z _ => by
      by_cases hb : b = a
      · exact ⟨_, hb ▸ hx⟩
      · exact ⟨o, kp b o hb z⟩
    tups := fun b xs z => up z (at_ne e z exo_tup)
    frzs := fun b o v z => up z (at_ne e z exo_frz)
    tbls := fun b ps z => ⟨#[], by rw [up z (at_ne e z exo_tbl)]; simp⟩ }
  refine fin dx _ fr dne (I.un (t' := tk') UN fun b o z => ?_)
  by_cases hb : b = a
  · subst hb
    rw [upd_same] at z
    cases z
    exact exo_ok hx
  rw [upd_ne hb] at z
  by_cases hd : b = dx
  · subst hd
    rw [upd_same] at z
    cases z
    exact exd_ok hn (relO_put (fs := []) ry fun _ => True.intro)
  rw [upd_ne hd] at z
  refine (I.hok b o z).stay (fun c v hc y => kp c v ?_ y) (fun c hc => up hc (at_ne e hc exo_own)) (fun c xs hc => up hc (at_ne e hc exo_tup))
  rcases hc with hc | hc
  · rw [hc]; exact hb
  · exact at_ne e hc exo_own
end
/-- self.f = e -/
def tOsK (K : PySem.W.Frag) (f : Str) (to te : TE) : TS := fun D σ H => te σ H fun y H1 => to σ H1 fun x H2 => ∃ a C : Addr, x = .ref a ∧ EX K C ∧ PySem.W.findIn K (.ref C) f = some none ∧ H2 a = some (exo a C none) ∧ ∀ dx, H2 dx = none → dx ≠ a → D.nx σ (upd (upd H2 dx (exd dx [(f, y)])) a (exo a C (some dx)))
/-- an error of the class at C -/
def ErAt (H : Hp) (a C : Addr) (fs : List (Str × V)) : Prop := (fs = [] ∧ H a = some (exo a C none)) ∨ ∃ dx, H a = some (exo a C (some dx)) ∧ H dx = some (exd dx fs)
theorem ErAt.same {H G : Hp} {a C : Addr} {fs : List (Str × V)} (h : ErAt H a C fs) (s : Same H G) : ErAt G a C fs := by
  rcases h with ⟨e, h⟩ | ⟨dx, h1, h2⟩
  · exact .inl ⟨e, s _ _ h⟩
  · exact .inr ⟨dx, s _ _ h1, s _ _ h2⟩
theorem ErAt.inst {P : Program} {w : World} {H : Hp} {h : Heap} {a C : Addr} {fs : List (Str × V)} (k : HOk P w H h) (e : ErAt H a C fs) : ∃ ox od, PySem.W.InstAt h a ox C od := by
  rcases e with ⟨_, e⟩ | ⟨dx, e1, e2⟩
  · obtain ⟨t1, ho⟩ := exo_at k e
    exact ⟨_, none, ho, rfl, rfl, trivial⟩
  · obtain ⟨t1, ho⟩ := exo_at k e1
    obtain ⟨mA, ⟨o, es, ep, z, _⟩, _⟩ := exd_at k e2
    exact ⟨_, some o, ho, rfl, rfl, z⟩
/-- e.f -/
def tExf (K : PySem.W.Frag) (f : Str) (te : TE) : TE := fun σ H Q => te σ H fun x H1 => ∃ (a C : Addr) (fs : List (Str × V)) (v : V), x = .ref a ∧ EX K C ∧ PySem.W.findIn K (.ref C) f = some none ∧ ErAt H1 a C fs ∧ fs.lookup f = some v ∧ Q v H1
/-- isinstance(e, c) -/
def rIsX (K : PySem.W.Frag) : List V → Hp → VK → Prop := fun xs H Q => ∃ (a C : Addr) (fs : List (Str × V)) (c : V) (u : Value) (b : Bool), xs = [.ref a, c] ∧ EX K C ∧ ErAt H a C fs ∧ ClsV c u ∧ PySem.W.kitOne K (.ref C) u = some b ∧ Q (.bl b) H
/-- isinstance(e, (c1, c2, ..)) -/
def rIsXT (K : PySem.W.Frag) : List V → Hp → VK → Prop := fun xs H Q => ∃ (a C tp : Addr) (fs : List (Str × V)) (cs : List V) (us : List Value) (b : Bool), xs = [.ref a, .ref tp] ∧ EX K C ∧ ErAt H a C fs ∧ H tp = some (.tup cs) ∧ Paired ClsV cs us ∧ PySem.W.kitAny K (.ref C) us = some b ∧ Q (.bl b) H
/-- C(e, ..) -/
def tMkX (C : Addr) (sp : Sp) (ta : TA) : TE := fun σ H Q => ta σ H fun vs H1 => vs.length ≤ 1000 ∧ ∀ a, H1 a = none → sp (.ref a :: vs) (upd H1 a (exo a C none)) (fun v H2 => v = .non ∧ Q (.ref a) H2) (fun _ _ _ => False)
section
variable {X : Cx} {o e : Expr} {es : List Expr} {to te : TE} {ta : TA} {f : Str} {p p' pos : Pos}
theorem ps_osK (ho : PE X o to) (he : PE X e te) (hs : swapsWith e (some (.Attribute o f p')) pos.line X.env = pure false := by rfl) : PS X (.Assign [.Attribute o f p'] e pos) (tOsK X.K f to te) := by
  refine ⟨fun pins s σ H D I h => ?_⟩
  refine plainObj_wpAny_Assign_Attribute (thn (he.run pins s σ H _ I h) fun v s1 z1 => ?_) hs
  obtain ⟨y, H1, I1, r1, q1⟩ := z1
  refine thn (ho.run pins s1 σ H1 _ I1 q1) fun u s2 z2 => ?_
  obtain ⟨x, H2, I2, r2, a, C, ex, T, hno, ea, q⟩ := z2
  subst ex
  obtain rfl : u = Value.ref a := r2
  exact ostK T I2 ea hno r1 fun dx s' n ne J => ⟨σ, _, J, q dx n ne⟩
theorem pe_exf (he : PE X e te) (hb : attributeBase e f X.env (eval e X.env) = eval e X.env := by rfl) : PE X (.Attribute e f pos) (tExf X.K f te) := by
  refine ⟨fun pins s σ H Q I h => ?_⟩
  refine attr_of hb (thn (he.run pins s σ H _ I h) fun u s1 z => ?_)
  obtain ⟨x, H1, I1, rx, a, C, fs, v, ex, T, hno, er, l, q⟩ := z
  subst ex
  obtain rfl : u = Value.ref a := rx
  rcases er with ⟨rfl, _⟩ | ⟨dx, e1, e2⟩
  · cases l
  obtain ⟨t1, ho⟩ := exo_at I1.hok e1
  obtain ⟨mA, hns, hr⟩ := exd_at I1.hok e2
  obtain ⟨od, hod, hl⟩ := lookIn_ns hns
  obtain ⟨u, hu, ru⟩ := RelO.some_of (v := v) (o := mA f) (by rw [← l]; exact hr f)
  have J : PySem.W.InstAt s1.heap a { cls := .ref C, dict := some dx, data := .fields #[.ref t1, .none, .none, .none, .bool false, .none] } C (some od) := ⟨ho, rfl, rfl, hod⟩
  exact HandSPX.exc_get I1.kIn J T.ga T.gg T.ex (PySem.W.findObj_own T.hd hno rfl (by rw [hl, hu])) (handed_of ru) ⟨v, H1, I1.tok _, ru, q⟩
theorem kitxK {K : PySem.W.Frag} {C x : Addr} {ox : Obj} {od : Option Obj} (T : EX K C) : PySem.W.KitX K (.ref x) (.ref C) (fun h => PySem.W.InstAt h x ox C od) := by
  obtain ⟨cd, hc, _⟩ := PySem.W.any_some T.hd
  exact PySem.W.kitx_exc (by rw [hc]; rfl) T.ga T.gg T.ex T.ca T.cg T.ct T.mo
theorem call_isX : CallR X (.builtin "isinstance") (rIsX X.K) := by
  intro pins s σ H xs us Q I r h
  obtain ⟨a, C, fs, c, u, b, rfl, T, er, k, e, q⟩ := h
  obtain ⟨u1, u2, rfl, r1, r2⟩ := vals2 r
  have e2 := k.eq r2
  subst e2
  obtain rfl : u1 = Value.ref a := r1
  obtain ⟨ox, od, J⟩ := er.inst I.hok
  exact PySem.W.kia_one (kitxK T) I.kIn J e (fun z => nomatch z) fun tk => ⟨.bl b, H, I.tok tk, rfl, q⟩
theorem call_isXT : CallR X (.builtin "isinstance") (rIsXT X.K) := by
  intro pins s σ H xs us Q I r h
  obtain ⟨a, C, tp, fs, cs, ws, b, rfl, T, er, hT, k, e, q⟩ := h
  obtain ⟨u1, u2, rfl, r1, r2⟩ := vals2 r
  obtain rfl : u1 = Value.ref a := r1
  obtain rfl : u2 = Value.ref tp := r2
  obtain ⟨ox, od, J⟩ := er.inst I.hok
  obtain ⟨_, its, rv, o, h1, h2, n, h3⟩ := (show ObjOk X.prog X.w H s.heap tp (.tup cs) from I.hok tp _ hT)
  have e3 := ClsV.all k rv
  subst e3
  obtain ⟨oc, od', dt, sl⟩ := o
  simp only at h2 h3
  subst h2 h3
  exact PySem.W.kia_tup (kitxK T) I.kIn J h1 e (fun z => nomatch z) fun tk => ⟨.bl b, H, I.tok tk, rfl, q⟩
/-! ### made -/
theorem run_mkX {CX : CXT} {C fI : Addr} {k : Nat} {fd : FuncData} {ps : List Str} {sp : Sp} {pins : List (Addr × Obj)} {σ : L2.St} {H : Hp} {s : Shared} {Q : VK} {us bound : List Value} {kw : List (Str × Value)} {vs : List V} (T : EX X.K C)
    (iC : PySem.W.findIn X.K (.ref C) "__init__" = some (some (.ref fI))) (tI : PySem.W.typeIn X.K (.ref fI) = some (.type "function")) (F1 : FnOk X.prog X.w X.K X.mg X.base CX k fI fd ps sp) (hr : Room (k + 1) X.A) (hx : Passes CX X (fun _ _ _ => False))
    (I : Inv X pins σ H s) (r : Vals vs bound) (hus : us.length ≤ sizeLine) (hb : ∀ (t : Shared) (a : Addr), X.K.In t.heap → BindsTo t fd ⟨.ref a :: us, kw⟩ (ps.zip (.ref a :: bound)))
    (h : ∀ a, H a = none → sp (.ref a :: vs) (upd H a (exo a C none)) (fun v H2 => v = .non ∧ Q (.ref a) H2) (fun _ _ _ => False)) : wpAny (model X.prog X.w) X.A (call (.ref C) us kw) (EP X pins σ Q) X.xe s := by
  obtain ⟨B, newId, initId, bmB, EF, _, ini, _⟩ := T.base
  obtain ⟨nm, N, qn, bs, bm, hdct, sn, sub, ab, col, dd, k0, k1, k2, k3, k5, hC, tail⟩ := PySem.W.excInit_of I.kIn ini
  obtain ⟨hp, g, dr, tk, os⟩ := s
  have sz : hp.objs.size ≤ hp.objs.size + 1 := Nat.le_succ _
  have hq := h (hp.objs.size + 1) (I.hok.fresh sz)
  have kk : ∀ b o, hp.get? b = some o → ((hp.push (PySem.W.kdv_tup us)).push (exN C hp.objs.size)).get? b = some o := fun b o e => Heap.get?_push_of_some _ (Heap.get?_push_of_some _ e)
  have gt : ((hp.push (PySem.W.kdv_tup us)).push (exN C hp.objs.size)).get? (hp.objs.size + 1) = some (exN C hp.objs.size) := by heap_get
  have I2 : Inv X pins σ (upd H (hp.objs.size + 1) (exo (hp.objs.size + 1) C none)) ⟨(hp.push (PySem.W.kdv_tup us)).push (exN C hp.objs.size), g, dr, tk, os⟩ :=
    I.laid (t' := tk) (a := hp.objs.size + 1) (o := exo (hp.objs.size + 1) C none) (h' := (hp.push (PySem.W.kdv_tup us)).push (exN C hp.objs.size)) kk sz (exo_ok gt)
  have r2 : Vals (V.ref (hp.objs.size + 1) :: vs) (Value.ref (hp.objs.size + 1) :: bound) := .cons rfl r
  refine wpAny_call (ownK EF tail hC (PySem.W.looks_findIn I.kIn iC) (fun self => PySem.W.bind_fn I.kIn self tI) hus
    (codeAny_mono (F1.run _ X.stack _ _ ⟨Value.ref (hp.objs.size + 1) :: us, kw⟩ _ _ _ (fun _ _ _ => False) (hr.make C us kw) (I2.env0.make C us kw) (hb _ _ I2.kIn) r2 hq) fun r s' hq' => ?_))
  cases r with
  | error er => exact hx pins σ _ _ er s' I2 hq'
  | ok fl =>
    cases fl with
    | ret u =>
      obtain ⟨v, H', I3, rv, ev, q3⟩ := I2.after hq'
      subst ev
      exact ⟨rv, ⟨V.ref (hp.objs.size + 1), H', I3, rfl, q3⟩⟩
    | next => exact False.elim hq'
    | brk => exact False.elim hq'
    | cont => exact False.elim hq'
/-- an own error class as its makers see it -/
structure Mx (P : Program) (w : World) (K : PySem.W.Frag) (mg : Str → Option Value) (base : Heap) (k : Nat) (x : Str) (ps : List Str) (sp : Sp) (C fI : Addr) (fd : FuncData) : Prop where
  t : EX K C
  m : mg x = some (.ref C)
  i : PySem.W.findIn K (.ref C) "__init__" = some (some (.ref fI))
  ti : PySem.W.typeIn K (.ref fI) = some (.type "function")
  ok : FnOk P w K mg base CX0 k fI fd ("self" :: ps) sp
  b : Binds K fd ("self" :: ps) []
section
variable {k : Nat} {x : Str} {ps : List Str} {sp : Sp} {C fI : Addr} {fd : FuncData}
theorem pe_mkX (M : Mx X.prog X.w X.K X.mg X.base k x ps sp C fI fd) (hr : Room (k + 1) X.A) (hx : Passes CX0 X (fun _ _ _ => False)) (hg : Gl X x) (ha : PA X (e :: es) ta)
    (hdb : (x == ("__debug__" : Str)) = false := by decide) (he : starEach (e :: es) X.env = (false, eval e X.env) :: starEach es X.env := by rfl) (hpl : (backTo pos (starEach es X.env)).any (·.1) = false := by rfl) :
    PE X (.Call (.Name x p) (e :: es) [] pos) (tMkX C sp ta) := by
  refine ⟨fun pins s σ H Q I h => ?_⟩
  refine wpAny_Call_Name_kw (ld_glob I hg M.m ?_ hdb)
  refine PySem.W.callWith_K (h₀ := X.base) I.ok.mod.kin M.t.kp (thn (ha.run pos pins s σ H _ I h) fun us s1 z => ?_) he hpl
  obtain ⟨vs, H1, I1, r1, hz, q1⟩ := z
  refine ⟨I1.kIn, ?_⟩
  have lu : us.length ≤ 1000 := by rw [← r1.length]; exact hz
  have lf := M.ok.len _ _ _ _ (q1 _ (I1.hok.fresh (Nat.le_refl _)))
  refine run_mkX M.t M.i M.ti M.ok hr hx I1 r1 (Nat.le_trans lu (by rw [sizeLine_eq]; omega)) (fun t a KX => ?_) q1
  have hl : ((Value.ref a :: us) ++ []).length = (("self" : Str) :: ps).length := by
    rw [List.append_nil, List.length_cons, ← lf, List.length_cons, r1.length]
  have z := M.b t (Value.ref a :: us) KX hl
  rw [List.append_nil] at z
  exact z
theorem pe_mkX0 (M : Mx X.prog X.w X.K X.mg X.base k x [] sp C fI fd) (hr : Room (k + 1) X.A) (hx : Passes CX0 X (fun _ _ _ => False)) (hg : Gl X x) (hdb : (x == ("__debug__" : Str)) = false := by decide) :
    PE X (.Call (.Name x p) [] [] pos) (tMkX C sp tNil) := by
  refine ⟨fun pins s σ H Q I h => ?_⟩
  refine wpAny_Call_Name_kw (ld_glob I hg M.m ?_ hdb)
  refine PySem.W.callWith_K0 I.kIn M.t.kp ?_
  exact run_mkX M.t M.i M.ti M.ok hr hx I .nil (Nat.zero_le _) (fun t a KX => M.b t [Value.ref a] KX rfl) h.2
/-- C(n = e) -/
theorem pe_mkXK {n : Str} {kpos : Pos} (M : Mx X.prog X.w X.K X.mg X.base k x [n] sp C fI fd) (hkb : ∀ (t : Shared) (a u : Value), BindsTo t fd ⟨[a], [(n, u)]⟩ [("self", a), (n, u)]) (hr : Room (k + 1) X.A) (hx : Passes CX0 X (fun _ _ _ => False)) (hg : Gl X x) (he : PE X e te) (hdb : (x == ("__debug__" : Str)) = false := by decide)
    (hall : (backToKw pos (keywordEach [⟨some n, e, kpos⟩] X.env)).all (·.1.isSome) = true := by rfl) (hks : (backToKw pos (keywordEach [⟨some n, e, kpos⟩] X.env)).filterMap (·.1) = [n] := by rfl)
    (hpl : ((backTo pos (starEach [] X.env)).any (·.1) || (backToKw pos (keywordEach [⟨some n, e, kpos⟩] X.env)).any (·.1.isNone)) = false := by rfl) :
    PE X (.Call (.Name x p) [] [⟨some n, e, kpos⟩] pos) (tMkX C sp (tCons te tNil)) := by
  refine ⟨fun pins s σ H Q I h => ?_⟩
  refine wpAny_Call_Name_kw (ld_glob I hg M.m ?_ hdb)
  refine PySem.W.callWith_KW0 (h₀ := X.base) I.ok.mod.kin M.t.kp hall ?_ hpl
  refine thn ((pk_cons he pk_nil).run pos pins s σ H _ I h) fun ws s2 z => ?_
  obtain ⟨zs, H2, I2, rz, hz, q2⟩ := z
  refine ⟨I2.kIn, ?_⟩
  rw [hks]
  have lf := M.ok.len _ _ _ _ (q2 _ (I2.hok.fresh (Nat.le_refl _)))
  have lw : ws.length = 1 := by
    rw [← rz.length]
    have : (V.ref s2.heap.objs.size :: zs).length = 2 := lf
    rw [List.length_cons] at this
    omega
  match ws, lw with
  | [u], _ => exact run_mkX (us := []) (kw := [(n, u)]) M.t M.i M.ti M.ok hr hx I2 rz (Nat.zero_le _) (fun t a KX => hkb t (.ref a) u) q2
end
end
end Hs

set_option Elab.async false
set_option linter.all false
set_option maxRecDepth 100000
set_option maxHeartbeats 4000000
/-! try: .. except (A, B, ..) as n: .., the caught error kept as a value behind the suite. -/
namespace Hs
open PySem PySem.Spec PyProof.Rows L2
theorem flyZ_keeps {B h h' : Heap} {l : List Env} {a : Addr} {Z : Obj → Prop} (R : HandSPX.FlyingZ B l a Z h) (k : ∀ b o, h.get? b = some o → h'.get? b = some o) : HandSPX.FlyingZ B l a Z h' := by
  obtain ⟨f1, f2, f3, oe, ws, T, oT, ts, he, hz, hd, h1, hn, hne, hT, hdT, h3⟩ := R
  exact ⟨fun b o q => k b o (f1 b o q), f2, f3.of_keeps fun b o q _ => ⟨o, k b o q, rfl⟩, oe, ws, T, oT, ts, k _ _ he, hz, hd, h1, hn, hne, k _ _ hT, hdT, h3⟩
/-! ### a tuple of classes in an except clause -/
section
variable {M : Model} {K : PySem.W.Frag}
theorem forIn_all {A : Around} {E : Value → Shared → Prop} {s : Shared} {f : Value → PUnit → Sem (ForInStep PUnit)} : ∀ (cs : List Value) {Q : PUnit → Shared → Prop}, (∀ c ∈ cs, ∀ {R : ForInStep PUnit → Shared → Prop}, R (.yield ⟨⟩) s → wpAny M A (f c ⟨⟩) R E s) → Q ⟨⟩ s → wpAny M A (forIn cs PUnit.unit f) Q E s
  | [], Q, _, q => by rw [List.forIn_nil]; exact wpAny_pure q
  | c :: cs, Q, h, q => by
    rw [List.forIn_cons]
    exact wpAny_bind (h c (List.mem_cons_self ..) (forIn_all cs (fun c' hc => h c' (List.mem_cons_of_mem _ hc)) q))
theorem forIn_any {A : Around} {E : Value → Shared → Prop} {s : Shared} {β : Type} {b0 bT : β} {f : Value → β → Sem (ForInStep β)} {an : Value → Bool} : ∀ (cs : List Value) {Q : β → Shared → Prop}, (∀ c ∈ cs, ∀ {R : ForInStep β → Shared → Prop}, R (if an c = true then .done bT else .yield b0) s → wpAny M A (f c b0) R E s) → Q (if cs.any an = true then bT else b0) s → wpAny M A (forIn cs b0 f) Q E s
  | [], Q, _, q => by rw [List.forIn_nil]; exact wpAny_pure q
  | c :: cs, Q, h, q => by
    rw [List.forIn_cons]
    refine wpAny_bind (h c (List.mem_cons_self ..) ?_)
    rw [List.any_cons] at q
    cases e : an c with
    | true =>
      rw [e] at q
      exact wpAny_pure q
    | false =>
      rw [e] at q
      exact forIn_any cs (fun c' hc => h c' (List.mem_cons_of_mem _ hc)) q
theorem exmAll : ∀ {cs : List Value} {cls : Value} {b : Bool}, PySem.W.exmAny K cls cs = some b → (∀ c ∈ cs, ∃ v, PySem.W.exmOne K cls c = some v) ∧ cs.any (fun c => PySem.W.exmOne K cls c == some true) = b
  | [], cls, b, h => by
    have : some false = some b := h
    cases this
    exact ⟨(fun c hc => nomatch hc), rfl⟩
  | c :: cs, cls, b, h => by
    obtain ⟨b1, d1, x1, y1, rfl⟩ := PySem.W.exmAny_cons h
    obtain ⟨h1, h2⟩ := exmAll y1
    refine ⟨fun c' hc => ?_, ?_⟩
    · rcases List.mem_cons.mp hc with rfl | hc
      · exact ⟨b1, x1⟩
      · exact h1 c' hc
    · rw [List.any_cons, h2, x1]
      cases b1 <;> rfl
theorem exm_tupN {cs : List Value} {cls : Value} {tp e : Addr} {b : Bool} {h : Heap} (X : K.In h) (LT : PySem.W.Looks M h (typeOf (.ref e)) cls) (hp : h.get? tp = some { cls := .type "tuple", data := .seq cs.toArray }) (hx : PySem.W.exmAny K cls cs = some b) :
    PySem.W.Looks M h (excMatches (.ref e) (.ref tp)) b := by
  intro A Q E s k₀ q
  obtain ⟨hh, g, d, tk, os⟩ := s
  have k : ∀ b o, h.get? b = some o → hh.get? b = some o := k₀
  have L0 : PySem.W.Looks M h (isInstance (.ref tp) (.type "tuple")) true := ((PySem.W.Looks.ld hp).andThen .now).andThen (PySem.W.Looks.of_pure isSubtype_tuple_tuple)
  have L0 := L0.keeps k
  have LT := LT.keeps k
  have hp' := k _ _ hp
  obtain ⟨one, an⟩ := exmAll hx
  unfold excMatches
  refine wpAny_bind (L0.at ?_)
  dsimp only
  rw [if_pos rfl]
  first
    | refine wpAny_bind (wpAny_seqItems hp' rfl ?_)
    | refine wpAny_bind (wpAny_bind (wpAny_seqItems hp' rfl (wpAny_pure ?_)))
  dsimp only [Option.getD_some, Option.getD]
  refine wpAny_bind (wpAny_pure ?_)
  refine wpAny_bind (forIn_all cs (fun c hc {R} r => ?_) ?_)
  · obtain ⟨v, hv⟩ := one c hc
    obtain ⟨e1, _⟩ := PySem.W.exm_cls (M := M) X hv
    have e1 := e1.keeps k
    (repeat (first | simp only [Bool.not_true, Bool.false_eq_true, if_false, if_true] | lk)); exact r
  · refine wpAny_bind (LT.at ?_)
    refine wpAny_bind (forIn_any (bT := ((some true : Option Bool), ())) (an := fun c => PySem.W.exmOne K cls c == some true) cs (fun c hc {R} r => ?_) ?_)
    · obtain ⟨v, hv⟩ := one c hc
      obtain ⟨_, S1⟩ := PySem.W.exm_cls (M := M) X hv
      have S1 := S1.keeps k
      rw [hv] at r
      cases v <;> ((repeat (first | simp only [Bool.not_true, Bool.false_eq_true, if_false, if_true] | lk)); exact r)
    · rw [an]
      cases b <;> ((repeat (first | simp only [Bool.false_eq_true, if_false, if_true] | lk)); exact q)
end
/-! ### a caught error, tracked -/
/-- at a: an error object, raised or not, of the class cls, its dict at d -/
def exv (a : Addr) (cls : Value) (d : Option Addr) : HO := .ext fun h => ∃ (oe : Obj) (vs : Array Value), h.get? a = some oe ∧ Zc cls d oe ∧ oe.data = .fields vs
theorem exv_ok {P : Program} {w : World} {H : Hp} {h : Heap} {a : Addr} {cls : Value} {d : Option Addr} {oe : Obj} {vs : Array Value} (e : h.get? a = some oe) (z : Zc cls d oe) (hd : oe.data = .fields vs) : ObjOk P w H h a (exv a cls d) :=
  ⟨⟨oe, vs, e, z, hd⟩, ⟨oe, e⟩, fun _ _ ⟨o, v, q, r⟩ k => ⟨o, v, k o q, r⟩⟩
theorem exv_at {P : Program} {w : World} {H : Hp} {h : Heap} {a : Addr} {cls : Value} {d : Option Addr} (hok : HOk P w H h) (he : H a = some (exv a cls d)) : ∃ (oe : Obj) (vs : Array Value), h.get? a = some oe ∧ Zc cls d oe ∧ oe.data = .fields vs := by
  have x : ObjOk P w H h a (.ext fun h => ∃ (oe : Obj) (vs : Array Value), h.get? a = some oe ∧ Zc cls d oe ∧ oe.data = .fields vs) := hok a _ he
  exact x.1
section
variable {X : Cx} {pins : List (Addr × Obj)} {σ : L2.St} {H : Hp} {s : Shared}
/-- an object that was not there at the entry may be tracked -/
theorem track {a : Addr} {o : HO} {oe : Obj} {vs : Array Value} (I : Inv X pins σ H s) (ho : s.heap.get? a = some oe) (hd : oe.data = .fields vs) (na : H a = none) (n0 : X.s_0.heap.get? a = none) (nL : a ≠ X.env.locals) (np : ∀ p ∈ X.pn ++ pins, p.1 ≠ a)
    (new : ObjOk X.prog X.w (upd H a o) s.heap a o) : Inv X pins σ (upd H a o) s := by
  have ne0 : ∀ b u, X.s_0.heap.get? b = some u → b ≠ a := fun b u e z => by rw [z, n0] at e; cases e
  have up : ∀ {b : Addr} {u : HO}, H b = some u → upd H a o b = some u := fun {b u} e => (upd_ne (ne_of_none e na)).trans e
  have nC : ∀ x c, X.env.cells.lookup x = some c → c ≠ a := fun x c e z => by
    obtain ⟨v, oc, hc, hv⟩ := I.cell x c e
    rw [z, ho] at hc
    cases hc
    rw [hd] at hv; cases hv
  refine ⟨I.ok, I.os, I.bare, ⟨I.base.keep, I.base.slot, fun b u e n hx => ?_, I.base.there, fun b xs e => up (I.base.tups b xs e), fun b u v e => up (I.base.frzs b u v e), fun b ps e => ?_⟩, I.loc, I.cell, ?_, fun x c e => ?_, fun p hp => ?_, fun b u e => ?_, I.len⟩
  · rw [upd_ne (ne0 b u e)]; exact I.base.free b u e n hx
  · obtain ⟨m, q⟩ := I.base.tbls b ps e
    exact ⟨m, up q⟩
  · rw [upd_ne (Ne.symm nL)]; exact I.free
  · rw [upd_ne (nC x c e)]; exact I.freeC x c e
  · obtain ⟨e, n, ne, nf, dd⟩ := I.pin p hp
    exact ⟨e, (upd_ne (np p hp)).trans n, ne, nf, dd⟩
  · by_cases hb : b = a
    · subst hb
      rw [upd_same] at e
      cases e
      exact new
    · rw [upd_ne hb] at e
      exact (I.hok b u e).stay (fun c v _ q => q) (fun c q => up q) (fun c xs q => up q)
end
/-- the names of a tuple of classes, and the classes -/
inductive NamesL (X : Cx) : List Expr → List Value → Prop
  | nil : NamesL X [] []
  | cons {x : Str} {c : Value} {np : Pos} {es : List Expr} {cs : List Value} (hc : Names X x c) (r : NamesL X es cs) : NamesL X (.Name x np :: es) (c :: cs)
theorem NamesL.run {X : Cx} {pins : List (Addr × Obj)} {σ : L2.St} {H : Hp} {s : Shared} {pos : Pos} {E : Value → Shared → Prop} (I : Inv X pins σ H s) : ∀ {es : List Expr} {cs : List Value} {Q : List Value → Shared → Prop}, NamesL X es cs → Q cs s → wpAny (model X.prog X.w) X.A (spliced (backTo pos (starEach es X.env))) Q E s
  | _, _, Q, .nil, q => Calls.spliced_nil q
  | _, _, Q, .cons (x := x) (c := c) (np := np) (es := es) (cs := cs) hc r, q => by
    have st : starEach (.Name x np :: es) X.env = (false, eval (.Name x np) X.env) :: starEach es X.env := by rfl
    rw [st]
    show wpAny _ _ (spliced ((false, eval (.Name x np) X.env) :: backTo pos (starEach es X.env))) _ _ s
    refine Calls.spliced_cons ?_
    have fin : wpAny (model X.prog X.w) X.A (spliced (backTo pos (starEach es X.env))) (fun vs s₂ => Q (c :: vs) s₂) E s := NamesL.run I r q
    obtain ⟨hg, hdbg, hm | ⟨hm, hv, hnn⟩⟩ := hc
    · exact ld_glob I hg hm fin hdbg
    · exact ld_blt I hg hm hv fin hnn hdbg
theorem Names.suite {X : Cx} {a : Addr} {pn : List (Addr × Obj)} : ∀ {es : List Expr} {cs : List Value}, NamesL X es cs → NamesL (X.suite a pn) es cs
  | _, _, .nil => .nil
  | _, _, .cons hc r => .cons hc (Names.suite r)
/-- what the clause wishes of an error of the body -/
def wTup (K : PySem.W.Frag) (cs : List Value) (i : Nat) (ts : Addr → Value → Option Addr → TS) (Wout : WX) (D : Ends) : WX := fun cls d σ H =>
  ∃ b, PySem.W.exmAny K cls cs = some b ∧ (b = true → ∀ a, H a = none → ts a cls d { nx := fun σ' H' => D.nx (σ'.set i none) (upd H' a (exv a cls d)), rt := fun v H' => D.rt v (upd H' a (exv a cls d)), bk := fun σ' H' => D.bk (σ'.set i none) (upd H' a (exv a cls d)), ct := fun σ' H' => D.ct (σ'.set i none) (upd H' a (exv a cls d)) } (σ.set i (some (.ref a))) H) ∧
    (b = false → Wout cls d σ H)
section
variable {X : Cx} {n : Str} {cs : List Value} {i : Nat} {body suite : List Stmt} {b₀ : Stmt} {es : List Expr} {kk : Nat} {np pos pos' : Pos} {tb : WX → TS} {ts : Addr → Value → Option Addr → TS} {Wout : WX}
theorem ps_try_tup (stk : X.stack = X.env :: X.outer) (frm : X.env.frame = some X.env.locals) (hN : X.N.Nodup) (hi : X.N[i]? = some n) (hln : X.env.kindOf n = some .local) (hc : NamesL X es cs) (hcz : cs.length ≤ sizeLine) (hex : X.ex = []) (tk : Takes X Wout)
    (hb : ∀ (W : WX) (pn : List (Addr × Obj)) (xe : Value → Shared → Prop), Takes (X.tr pn xe) W → PassesOwn (model X.prog X.w) X.A X.env xe → PSs (X.tr pn xe) body (tb W))
    (hsu : ∀ (a : Addr) (oe : Obj) (cls : Value) (d : Option Addr) (pn : List (Addr × Obj)), Zc cls d oe → (∃ vs, oe.data = .fields vs) → PSs (X.suite a ((a, oe) :: pn)) (b₀ :: suite) (ts a cls d)) :
    PS X (.Try body [.ExceptHandler (some (.Tuple es kk np)) (some n) (b₀ :: suite) pos'] [] [] pos) (fun D σ H => tb (wTup X.K cs i ts Wout D) D σ H) := by
  refine ⟨fun pins s σ H D I h => ?_⟩
  have ok := I.ok
  have fr0 : X.A.frames = some (X.env :: X.outer) := by rw [ok.frames, stk]
  have loc : Loc X.env.scope n := .inl hln
  refine wpAny_Try_except ?_
  refine wpAny_mono ((hb (wTup X.K cs i ts Wout D) (X.pn ++ pins) (fun e s₁ => wpAny (model X.prog X.w) X.A (noteFrame e X.env) (fun _ s₂ => wpAny (model X.prog X.w) X.A (setFlight e none) (fun _ s₃ =>
    wpAny (model X.prog X.w) X.A (handleBy e X.env [.ExceptHandler (some (.Tuple es kk np)) (some n) (b₀ :: suite) pos']) (SP X pins D) X.xe s₃) X.xe s₂) X.xe s₁) (fun u s' air => ?_) PassesOwn.looking).run [] s σ H D (I.toTry _) h) (fun f s1 hsp => ?_) (fun e s1 he => he)
  · obtain ⟨a, B, sI, pins', σ', H', cls, d, rfl, J', nb, up, sky, na, os, ag, b, hb1, hyes, hno⟩ := air
    have J : Inv X pins σ' H' sI := J'.ofTry ok
    have sky' : Sky B (X.env :: X.outer) a (Zc cls d) X.env.locals s'.heap := by rw [← stk]; exact sky
    show wpAny (model X.prog X.w) X.A (noteFrame (.ref a) X.env) _ _ _
    refine Sky.land Zc.steady fr0 frm sky' fun h3 fl3 up3 => ?_
    have J3 : Inv X pins σ' H' { s' with heap := h3 } := J.landed nb fl3.1 (up.trans up3) os ag
    obtain ⟨oe3, vs3, he3, hz3, hd3⟩ := fl3.there
    have nfr : a ∉ frs (X.env :: X.outer) := fun hm => by
      obtain ⟨_, o', e', hnf⟩ := fl3.2.2.1.mem hm
      rw [he3] at e'; cases e'
      exact hnf _ hd3
    have nL : a ≠ X.env.locals := fun z => nfr (List.mem_filterMap.mpr ⟨X.env, List.mem_cons_self, by rw [frm, z]⟩)
    have nF : a ∉ X.fs := fun hm => by
      obtain ⟨e, he, q⟩ := List.mem_filterMap.mp hm
      exact nfr (List.mem_filterMap.mpr ⟨e, List.mem_cons_of_mem _ he, q⟩)
    -- it was not there at the entry, and is none of the pinned ones
    have nI : sI.heap.get? a = none := by
      cases z : sI.heap.get? a with
      | none => rfl
      | some o =>
        have y := nb a o z (by show a ∉ frs X.stack; rw [stk]; exact nfr)
        rw [fl3.2.1] at y; cases y
    have n0 : X.s_0.heap.get? a = none := by
      cases z : X.s_0.heap.get? a with
      | none => rfl
      | some o =>
        obtain ⟨o', y⟩ := J.base.there a o z (by rw [hex]; exact fun q => nomatch q)
        rw [nI] at y; cases y
    have np' : ∀ p ∈ X.pn ++ pins, p.1 ≠ a := fun p hp z => by
      obtain ⟨e, _⟩ := J.pin p hp
      rw [z, nI] at e; cases e
    have S3 := J3.suite he3 hd3 na nL nF
    refine wpAny_handleBy_cons (codeAny_handlers_test ?_) (by intro q; cases q)
    -- the tuple of classes is laid
    have kp : ∀ b o, h3.get? b = some o → (h3.push { cls := .type "tuple", data := .seq cs.toArray }).get? b = some o := fun b o z => Heap.get?_push_of_some _ z
    have LT : PySem.W.Looks (model X.prog X.w) h3 (typeOf (.ref a)) cls := fun A Q E s k q => wpAny_typeOf_ref (k _ _ he3) (by rw [hz3.1]; exact q)
    have LM := exm_tupN (M := model X.prog X.w) (J3.kIn.keeps kp) (LT.keeps kp) (Heap.get?_push_size h3 rfl) hb1
    refine Tuple_ (NamesL.run (X := X.suite a ((a, oe3) :: (X.pn ++ pins))) S3 (Names.suite hc) ?_)
    refine wpAny_newTuple ?_ hcz
    refine LM.here ?_
    have fl3' := flyZ_keeps fl3 kp
    have up3' := (up.trans up3).trans (Heap.UpToSlots.of_keeps kp)
    generalize h3.push { cls := .type "tuple", data := .seq cs.toArray } = h3' at fl3' up3' ⊢
    cases b with
    | true =>
      refine codeAny_handlers_suite_as ?_
      refine HandSPX.lands_againZ fl3' fun h4 fl4 up4 => ?_
      have J4 : Inv X pins σ' H' { s' with heap := h4 } := J.landed nb fl4.1 (up3'.trans up4) os ag
      obtain ⟨oe4, vs4, he4, hz4, hd4⟩ := fl4.there
      have S4 := J4.suite he4 hd4 na nL nF
      refine store_ok (X := X.suite a ((a, oe4) :: (X.pn ++ pins))) (v := .ref a) S4 hN hi loc rfl (fun s5 S5 => ?_) (.inr hln)
      refine wpAny_mono ((hsu a oe4 cls d (X.pn ++ pins) hz4 ⟨_, hd4⟩).run [] s5 _ H' _ S5 (hyes rfl a na)) (fun f s6 hsp => ?_) (fun _ _ z => False.elim z)
      have fin : ∀ {σ6 : L2.St} {H6 : Hp} {Q : Shared → Prop}, Inv (X.suite a ((a, oe4) :: (X.pn ++ pins))) [] σ6 H6 s6 → (∀ s7, Inv X pins (σ6.set i none) (upd H6 a (exv a cls d)) s7 → Q s7) →
          wpAny (model X.prog X.w) X.A (do bindName X.env n .none; unbindBehindTheSuite X.env n pos') (fun _ s7 => Q s7) X.xe s6 := fun {σ6 H6 Q} S6 hq => by
        obtain ⟨g6, m6, _⟩ := S6.pin (a, oe4) (by rw [List.append_nil]; exact List.mem_cons_self)
        exact gone_ok (track (S6.unsuite ok) g6 hd4 m6 n0 nL np' (exv_ok g6 hz4 hd4)) hN hi hln hq
      cases f with
      | next =>
        obtain ⟨σ6, H6, S6, q6⟩ := hsp
        exact fin S6 fun s7 J7 => ⟨_, _, J7, q6⟩
      | brk =>
        obtain ⟨σ6, H6, S6, q6⟩ := hsp
        exact fin S6 fun s7 J7 => ⟨_, _, J7, q6⟩
      | cont =>
        obtain ⟨σ6, H6, S6, q6⟩ := hsp
        exact fin S6 fun s7 J7 => ⟨_, _, J7, q6⟩
      | ret u =>
        obtain ⟨v6, σ6, H6, S6, r6, q6⟩ := hsp
        exact fin S6 fun s7 J7 => ⟨_, _, _, J7, r6, q6⟩
    | false =>
      show wpAny _ X.A (handleBy (.ref a) X.env []) _ _ _
      refine wpAny_handleBy_nil ?_
      obtain ⟨k1, k2, k3, oe, vs, T, oT, ts', he, hz, hd, h1, hr⟩ := id fl3'
      unfold PySem.passOn
      refine wpAny_bind (wpAny_field he hd h1 ?_)
      rw [if_neg (show ¬ ((Value.ref T == Value.none) = true) from by simp)]
      have fin : wpAny (model X.prog X.w) X.A (setFlight (.ref a) X.env.frame) (fun _ s4 => wpAny (model X.prog X.w) X.A (throw (.ref a) : Sem Flow) (SP X pins D) X.xe s4) X.xe { s' with heap := h3' } := by
        rw [frm]
        refine HandSPX.setFlight_upZ fl3' fun h4 hh4 up4 => wpAny_throw (tk _ _ ?_)
        exact ⟨a, B, sI, pins, σ', H', cls, d, rfl, J, nb, up3'.trans up4, .inr (.inr (by rw [stk]; exact hh4)), na, os, ag, hno rfl⟩
      first
        | exact wpAny_bind (wpAny_pure (wpAny_bind fin))
        | exact wpAny_bind fin
  · cases f with
    | next =>
      obtain ⟨σ', H', J', q⟩ := hsp
      exact wpAny_execs_nil ⟨σ', H', J'.ofTry ok, q⟩
    | brk =>
      obtain ⟨σ', H', J', q⟩ := hsp
      exact ⟨σ', H', J'.ofTry ok, q⟩
    | cont =>
      obtain ⟨σ', H', J', q⟩ := hsp
      exact ⟨σ', H', J'.ofTry ok, q⟩
    | ret u =>
      obtain ⟨v, σ', H', J', r, q⟩ := hsp
      exact ⟨v, σ', H', J'.ofTry ok, r, q⟩
end
end Hs

set_option Elab.async false
set_option linter.all false
set_option maxRecDepth 100000
set_option maxHeartbeats 4000000
/-! raise C(..) of any own error class, and what a caught error tells. -/
namespace Hs
open PySem PySem.Spec PyProof.Rows L2
/-- a caught error of the class at C -/
def ErV (H : Hp) (a C : Addr) (fs : List (Str × V)) : Prop := (fs = [] ∧ H a = some (exv a (.ref C) none)) ∨ ∃ dx, H a = some (exv a (.ref C) (some dx)) ∧ H dx = some (.xd fs)
theorem ErV.same {H G : Hp} {a C : Addr} {fs : List (Str × V)} (h : ErV H a C fs) (s : Same H G) : ErV G a C fs := by
  rcases h with ⟨e, h⟩ | ⟨dx, h1, h2⟩
  · exact .inl ⟨e, s _ _ h⟩
  · exact .inr ⟨dx, s _ _ h1, s _ _ h2⟩
theorem inst_of {h : Heap} {a C : Addr} {oe : Obj} {vs : Array Value} {d : Option Addr} {od : Option Obj} (e : h.get? a = some oe) (z : Zc (.ref C) d oe) (hd : oe.data = .fields vs) (m : match d, od with | some dx, some o => h.get? dx = some o | none, none => True | _, _ => False) : PySem.W.InstAt h a oe C od := by
  obtain ⟨oc, odd, oda, osl⟩ := oe
  obtain ⟨h1, h2⟩ := z
  dsimp only at h1 h2 hd
  subst h1 h2 hd
  refine ⟨e, rfl, rfl, ?_⟩
  cases odd <;> cases od <;> first | exact m | exact m.elim
theorem ErV.inst {P : Program} {w : World} {H : Hp} {h : Heap} {a C : Addr} {fs : List (Str × V)} (k : HOk P w H h) (e : ErV H a C fs) : ∃ ox od, PySem.W.InstAt h a ox C od := by
  rcases e with ⟨_, e⟩ | ⟨dx, e1, e2⟩
  · obtain ⟨oe, vs, ho, hz, hd⟩ := exv_at k e
    exact ⟨oe, none, inst_of ho hz hd trivial⟩
  · obtain ⟨oe, vs, ho, hz, hd⟩ := exv_at k e1
    obtain ⟨mA, ⟨o, es, ep, z, _⟩, _⟩ := (show ObjOk P w H h dx (.xd fs) from k dx _ e2)
    exact ⟨oe, some o, inst_of ho hz hd z⟩
def tExv (K : PySem.W.Frag) (f : Str) (te : TE) : TE := fun σ H Q => te σ H fun x H1 => ∃ (a C : Addr) (fs : List (Str × V)) (v : V), x = .ref a ∧ EX K C ∧ PySem.W.findIn K (.ref C) f = some none ∧ ErV H1 a C fs ∧ fs.lookup f = some v ∧ Q v H1
def rIsV (K : PySem.W.Frag) : List V → Hp → VK → Prop := fun xs H Q => ∃ (a C : Addr) (fs : List (Str × V)) (c : V) (u : Value) (b : Bool), xs = [.ref a, c] ∧ EX K C ∧ ErV H a C fs ∧ ClsV c u ∧ PySem.W.kitOne K (.ref C) u = some b ∧ Q (.bl b) H
def rIsVT (K : PySem.W.Frag) : List V → Hp → VK → Prop := fun xs H Q => ∃ (a C tp : Addr) (fs : List (Str × V)) (cs : List V) (us : List Value) (b : Bool), xs = [.ref a, .ref tp] ∧ EX K C ∧ ErV H a C fs ∧ H tp = some (.tup cs) ∧ Paired ClsV cs us ∧ PySem.W.kitAny K (.ref C) us = some b ∧ Q (.bl b) H
section
variable {X : Cx} {e : Expr} {es : List Expr} {te : TE} {ta : TA} {f : Str} {p pos : Pos}
theorem pe_exv (he : PE X e te) (hb : attributeBase e f X.env (eval e X.env) = eval e X.env := by rfl) : PE X (.Attribute e f pos) (tExv X.K f te) := by
  refine ⟨fun pins s σ H Q I h => ?_⟩
  refine attr_of hb (thn (he.run pins s σ H _ I h) fun u s1 z => ?_)
  obtain ⟨x, H1, I1, rx, a, C, fs, v, ex, T, hno, er, l, q⟩ := z
  subst ex
  obtain rfl : u = Value.ref a := rx
  rcases er with ⟨rfl, _⟩ | ⟨dx, e1, e2⟩
  · cases l
  obtain ⟨oe, vs, ho, hz, hd⟩ := exv_at I1.hok e1
  obtain ⟨mA, hns, hr⟩ := (show ObjOk X.prog X.w H1 s1.heap dx (.xd fs) from I1.hok dx _ e2)
  obtain ⟨od, hod, hl⟩ := lookIn_ns hns
  obtain ⟨u, hu, ru⟩ := RelO.some_of (v := v) (o := mA f) (by rw [← l]; exact hr f)
  exact HandSPX.exc_get I1.kIn (inst_of (od := some od) ho hz hd hod) T.ga T.gg T.ex (PySem.W.findObj_own T.hd hno rfl (by rw [hl, hu])) (handed_of ru) ⟨v, H1, I1.tok _, ru, q⟩
theorem call_isV : CallR X (.builtin "isinstance") (rIsV X.K) := by
  intro pins s σ H xs us Q I r h
  obtain ⟨a, C, fs, c, u, b, rfl, T, er, k, e, q⟩ := h
  obtain ⟨u1, u2, rfl, r1, r2⟩ := vals2 r
  have e2 := k.eq r2
  subst e2
  obtain rfl : u1 = Value.ref a := r1
  obtain ⟨ox, od, J⟩ := er.inst I.hok
  exact PySem.W.kia_one (kitxK T) I.kIn J e (fun z => nomatch z) fun tk => ⟨.bl b, H, I.tok tk, rfl, q⟩
theorem call_isVT : CallR X (.builtin "isinstance") (rIsVT X.K) := by
  intro pins s σ H xs us Q I r h
  obtain ⟨a, C, tp, fs, cs, ws, b, rfl, T, er, hT, k, e, q⟩ := h
  obtain ⟨u1, u2, rfl, r1, r2⟩ := vals2 r
  obtain rfl : u1 = Value.ref a := r1
  obtain rfl : u2 = Value.ref tp := r2
  obtain ⟨ox, od, J⟩ := er.inst I.hok
  obtain ⟨_, its, rv, o, h1, h2, n, h3⟩ := (show ObjOk X.prog X.w H s.heap tp (.tup cs) from I.hok tp _ hT)
  have e3 := ClsV.all k rv
  subst e3
  obtain ⟨oc, od', dt, sl⟩ := o
  simp only at h2 h3
  subst h2 h3
  exact PySem.W.kia_tup (kitxK T) I.kIn J h1 e (fun z => nomatch z) fun tk => ⟨.bl b, H, I.tok tk, rfl, q⟩
/-! ### raise C(..) -/
/-- the end of C(..) where __init__ stored nothing -/
theorem mk_endN {pins : List (Addr × Obj)} {σ : L2.St} {H1 H2 : Hp} {hp hp2 h2 : Heap} {g1 g2 : Array GenState} {d1 d2 : Drawn} {t1 t2 : Nat} {os1 os2 : OsState} {a C : Addr} {Q : XK} (T : Raises X (.ref C)) (I1 : Inv X pins σ H1 ⟨hp, g1, d1, t1, os1⟩)
    (ha : hp.objs.size ≤ a) (k : ∀ b o, hp.get? b = some o → hp2.get? b = some o) (un : Un (frs X.stack) [] (upd H1 a (exo a C none)) H2 hp2 h2) (hok : HOk X.prog X.w H2 h2) (ho : os2 = os1) (hb : AllBare g2)
    (ea : H2 a = some (exo a C none)) (q : Q (.ref C) none (del H2 a)) : MkP X pins σ Q (.ref a) ⟨h2, g2, d2, t2, os2⟩ := by
  obtain ⟨t0, hoe⟩ := exo_at hok ea
  have hn : H1 a = none := I1.hok.fresh ha
  obtain ⟨G, r1, r2⟩ := restrict h2 fun b => decide (b ≠ a)
  have gk : ∀ b, b ≠ a → G.get? b = h2.get? b := fun b hb => r1 b (decide_eq_true hb)
  have ge : G.get? a = none := r2 a (by simp)
  have nha : ∀ {b : Addr} {o : Obj}, hp.get? b = some o → b ≠ a := fun {b o} z => Nat.ne_of_lt (Nat.lt_of_lt_of_le (Heap.lt_size z) ha)
  have up : ∀ {b : Addr}, b ≠ a → H1 b = none → upd H1 a (exo a C none) b = none := fun {b} hb n => (upd_ne hb).trans n
  have U : Un (frs X.stack) [] H1 (del H2 a) hp G := {
    keep := fun b o z n hf hx => (gk b (nha z)).trans (un.keep b o (k b o z) (up (nha z) n) hf hx)
    slot := fun b o z n hf hx => by rw [gk b (nha z)]; exact un.slot b o (k b o z) (up (nha z) n) hf hx
    free := fun b o z n hx => (del_ne (nha z)).trans (un.free b o (k b o z) (up (nha z) n) hx)
    there := fun b o z hx => by rw [gk b (nha z)]; exact un.there b o (k b o z) hx
    tups := fun b xs z => (del_ne (ne_of_none z hn)).trans (un.tups b xs ((upd_ne (ne_of_none z hn)).trans z))
    frzs := fun b o v z => (del_ne (ne_of_none z hn)).trans (un.frzs b o v ((upd_ne (ne_of_none z hn)).trans z))
    tbls := fun b ps z => by rw [del_ne (ne_of_none z hn)]; exact un.tbls b ps ((upd_ne (ne_of_none z hn)).trans z) }
  have hok3 : HOk X.prog X.w (del H2 a) G := fun b o z => by
    have hba : b ≠ a := fun e => by rw [e, del_same] at z; cases z
    rw [del_ne hba] at z
    have noa : ∀ {c : Addr}, H2 c = some (.own b) → c ≠ a := fun {c} hc => at_ne ea hc exo_own
    refine (hok b o z).stay (fun c v hc y => ?_) (fun c hc => (del_ne (noa hc)).trans hc) (fun c xs hc => (del_ne (at_ne ea hc exo_tup)).trans hc)
    rcases hc with rfl | hc
    · exact (gk _ hba).trans y
    · exact (gk _ (noa hc)).trans y
  have J : Inv X pins σ (del H2 a) ⟨G, g2, d2, t2, os2⟩ := I1.call' (ch := []) ho U hok3 hb (fun b z => absurd z (by simp))
  refine ⟨a, _, _, ⟨G, g2, d2, t2, os2⟩, _, .ref C, none, rfl, J, fun b o z => ?_, ge, hoe, ⟨rfl, rfl⟩, rfl, rfl, del_same, rfl, hb, T, q⟩
  by_cases hba : b = a
  · rw [hba, ge] at z; cases z
  · exact (gk b hba).symm.trans z
/-- C(e, ..) to be raised -/
def tMkR (C : Addr) (sp : Sp) (ta : TA) : L2.St → Hp → XK → Prop := fun σ H Q => ta σ H fun vs H1 => vs.length ≤ 1000 ∧ ∀ a, H1 a = none → sp (.ref a :: vs) (upd H1 a (exo a C none))
  (fun v H2 => v = .non ∧ ((∃ (d : Addr) (fs : List (Str × V)), H2 a = some (exo a C (some d)) ∧ H2 d = some (exd d fs) ∧ H1 d = none ∧ Q (.ref C) (some d) (upd (del H2 a) d (.xd fs))) ∨ (H2 a = some (exo a C none) ∧ Q (.ref C) none (del H2 a)))) (fun _ _ _ => False)
theorem run_mkR {k : Nat} {x : Str} {ps : List Str} {sp : Sp} {C fI : Addr} {fd : FuncData} {pins : List (Addr × Obj)} {σ : L2.St} {H1 : Hp} {s1 : Shared} {Q : XK} {us : List Value} {vs : List V} (M : Mx X.prog X.w X.K X.mg X.base k x ps sp C fI fd) (hr : Room (k + 1) X.A) (hx : Passes CX0 X (fun _ _ _ => False))
    (I1 : Inv X pins σ H1 s1) (r1 : Vals vs us) (hz : vs.length ≤ 1000)
    (q1 : ∀ a, H1 a = none → sp (.ref a :: vs) (upd H1 a (exo a C none)) (fun v H2 => v = .non ∧ ((∃ (d : Addr) (fs : List (Str × V)), H2 a = some (exo a C (some d)) ∧ H2 d = some (exd d fs) ∧ H1 d = none ∧ Q (.ref C) (some d) (upd (del H2 a) d (.xd fs))) ∨ (H2 a = some (exo a C none) ∧ Q (.ref C) none (del H2 a)))) (fun _ _ _ => False)) :
    wpAny (model X.prog X.w) X.A (call (.ref C) us) (MkP X pins σ Q) X.xe s1 := by
  obtain ⟨B, newId, initId, bmB, EF, _, ini, _⟩ := M.t.base
  obtain ⟨nm, N, qn, bs, bm, hdct, sn, sub, ab, col, dd, k0, k1, k2, k3, k5, hC, tail⟩ := PySem.W.excInit_of I1.kIn ini
  obtain ⟨hp, g, dr, tk, os⟩ := s1
  have sz : hp.objs.size ≤ hp.objs.size + 1 := Nat.le_succ _
  have hn : H1 (hp.objs.size + 1) = none := I1.hok.fresh sz
  have hq := q1 (hp.objs.size + 1) hn
  have kk : ∀ b o, hp.get? b = some o → ((hp.push (PySem.W.kdv_tup us)).push (exN C hp.objs.size)).get? b = some o := fun b o e => Heap.get?_push_of_some _ (Heap.get?_push_of_some _ e)
  have gt : ((hp.push (PySem.W.kdv_tup us)).push (exN C hp.objs.size)).get? (hp.objs.size + 1) = some (exN C hp.objs.size) := by heap_get
  have I2 : Inv X pins σ (upd H1 (hp.objs.size + 1) (exo (hp.objs.size + 1) C none)) ⟨(hp.push (PySem.W.kdv_tup us)).push (exN C hp.objs.size), g, dr, tk, os⟩ :=
    I1.laid (t' := tk) (a := hp.objs.size + 1) (o := exo (hp.objs.size + 1) C none) (h' := (hp.push (PySem.W.kdv_tup us)).push (exN C hp.objs.size)) kk sz (exo_ok gt)
  have r2 : Vals (V.ref (hp.objs.size + 1) :: vs) (Value.ref (hp.objs.size + 1) :: us) := .cons rfl r1
  have hl : ((Value.ref (hp.objs.size + 1) :: us) ++ []).length = (("self" : Str) :: ps).length := by
    rw [List.append_nil, ← r2.length]; exact M.ok.len _ _ _ _ hq
  have lu : us.length ≤ sizeLine := by rw [← r1.length, sizeLine_eq]; omega
  have bnd := M.b _ (Value.ref (hp.objs.size + 1) :: us) I2.kIn hl
  rw [List.append_nil] at bnd
  refine wpAny_call (ownK EF tail hC (PySem.W.looks_findIn I1.kIn M.i) (fun self => PySem.W.bind_fn I1.kIn self M.ti) lu
    (codeAny_mono (M.ok.run _ X.stack _ _ ⟨Value.ref (hp.objs.size + 1) :: us, []⟩ _ _ _ (fun _ _ _ => False) (hr.make C us []) (I2.env0.make C us []) bnd r2 hq) fun r s' hq' => ?_))
  cases r with
  | error er => exact hx pins σ _ _ er s' I2 hq'
  | ok fl =>
    cases fl with
    | ret u =>
      obtain ⟨v, H2, os2, bare2, un2, hok2, rv, ev, fin⟩ := hq'
      subst ev
      obtain ⟨h2, g2, d2, t2, os'⟩ := s'
      refine ⟨rv, ?_⟩
      rcases fin with ⟨d, fs, ea, ed, hd1, q2⟩ | ⟨ea, q2⟩
      · exact mk_end (raises_own M.t.ex M.t.ty) I1 sz kk un2 hok2 os2 bare2 ea ed hd1 q2
      · exact mk_endN (raises_own M.t.ex M.t.ty) I1 sz kk un2 hok2 os2 bare2 ea q2
    | next => exact False.elim hq'
    | brk => exact False.elim hq'
    | cont => exact False.elim hq'
section
variable {k : Nat} {x : Str} {ps : List Str} {sp : Sp} {C fI : Addr} {fd : FuncData}
theorem pmkX (M : Mx X.prog X.w X.K X.mg X.base k x ps sp C fI fd) (hr : Room (k + 1) X.A) (hx : Passes CX0 X (fun _ _ _ => False)) (hg : Gl X x) (ha : PA X (e :: es) ta)
    (hdb : (x == ("__debug__" : Str)) = false := by decide) (hse : starEach (e :: es) X.env = (false, eval e X.env) :: starEach es X.env := by rfl) (hpl : (backTo pos (starEach es X.env)).any (·.1) = false := by rfl) : PMk X (.Call (.Name x p) (e :: es) [] pos) (tMkR C sp ta) := by
  intro pins s σ H Q I h
  refine wpAny_Call_Name_kw (ld_glob I hg M.m ?_ hdb)
  refine PySem.W.callWith_K (h₀ := X.base) I.ok.mod.kin M.t.kp (thn (ha.run pos pins s σ H _ I h) fun us s1 z => ?_) hse hpl
  obtain ⟨vs, H1, I1, r1, hz, q1⟩ := z
  exact ⟨I1.kIn, run_mkR M hr hx I1 r1 hz q1⟩
theorem pmkX0 (M : Mx X.prog X.w X.K X.mg X.base k x [] sp C fI fd) (hr : Room (k + 1) X.A) (hx : Passes CX0 X (fun _ _ _ => False)) (hg : Gl X x) (hdb : (x == ("__debug__" : Str)) = false := by decide) : PMk X (.Call (.Name x p) [] [] pos) (tMkR C sp tNil) := by
  intro pins s σ H Q I h
  refine wpAny_Call_Name_kw (ld_glob I hg M.m ?_ hdb)
  refine PySem.W.callWith_K0 I.kIn M.t.kp ?_
  exact run_mkR M hr hx I .nil (Nat.zero_le _) h.2
end
end
end Hs

set_option linter.all false
/-! The mathematics of pairs that do not cross: plain Lean. -/
namespace Hm
/-- everybody is the partner of their partner, nobody their own -/
def Prd (n : Nat) (m : Nat → Nat) : Prop := ∀ i, i < n → m i < n ∧ m i ≠ i ∧ m (m i) = i
/-- everybody is the partner of their partner, maybe their own -/
def Ivo (n : Nat) (m : Nat → Nat) : Prop := ∀ i, i < n → m i < n ∧ m (m i) = i
theorem Prd.ivo {n : Nat} {m : Nat → Nat} (h : Prd n m) : Ivo n m := fun i hi => ⟨(h i hi).1, (h i hi).2.2⟩
/-- two arms cross -/
def Crs (n : Nat) (m : Nat → Nat) : Prop := ∃ p t, p < t ∧ t < m p ∧ m p < m t ∧ m t < n ∧ t < n
/-- the arms that have begun and not ended ahead of i -/
def stk (m : Nat → Nat) (i : Nat) : List Nat := (List.range i).filter fun j => decide (i ≤ m j)
theorem mem_stk {m : Nat → Nat} {i j : Nat} : j ∈ stk m i ↔ j < i ∧ i ≤ m j := by
  unfold stk; rw [List.mem_filter, List.mem_range, decide_eq_true_eq]
theorem stk_lt (m : Nat → Nat) (i : Nat) : (stk m i).Pairwise (· < ·) := List.Pairwise.filter _ List.pairwise_lt_range
theorem stk_zero (m : Nat → Nat) : stk m 0 = [] := rfl
theorem stk_len (m : Nat → Nat) (i : Nat) : (stk m i).length ≤ i := by
  unfold stk
  exact Nat.le_trans (List.length_filter_le _ _) (by rw [List.length_range]; exact Nat.le_refl _)
theorem stk_push {n i : Nat} {m : Nat → Nat} (h : Ivo n m) (hi : i < n) (c : i < m i) : stk m (i + 1) = stk m i ++ [i] := by
  unfold stk
  rw [List.range_succ, List.filter_append]
  congr 1
  · apply List.filter_congr
    intro j hj
    have hj' := List.mem_range.mp hj
    have e : m j ≠ i := fun z => by
      have z2 := (h j (by omega)).2
      rw [z] at z2; omega
    by_cases q : i ≤ m j
    · rw [decide_eq_true q, decide_eq_true (show i + 1 ≤ m j by omega)]
    · rw [decide_eq_false q, decide_eq_false (show ¬ i + 1 ≤ m j by omega)]
  · rw [List.filter_cons, if_pos (decide_eq_true (by omega))]; rfl
/-- nothing that has ended ahead of i is crossed -/
def Clr (n : Nat) (m : Nat → Nat) (i : Nat) : Prop := ∀ p t, p < t → t < m p → m p < m t → m t < n → t < n → m p < i → False
theorem clr_push {n i : Nat} {m : Nat → Nat} (h : Ivo n m) (hi : i < n) (c : i < m i) (hc : Clr n m i) : Clr n m (i + 1) := by
  intro p t h1 h2 h3 h4 h5 h6
  by_cases z : m p < i
  · exact hc p t h1 h2 h3 h4 h5 z
  · have e : m p = i := by omega
    have e2 := (h p (by omega)).2
    rw [e] at e2; omega
/-- behind an arm's end: either the top of the pile is its beginning, or something crosses -/
theorem stk_pop {n i : Nat} {m : Nat → Nat} (h : Ivo n m) (hi : i < n) (c : m i < i) : ∃ l z, stk m i = l ++ [z] ∧ (z ≠ m i → Crs n m) ∧ (z = m i → stk m (i + 1) = l ∧ (Clr n m i → Clr n m (i + 1))) := by
  have hp := (h i hi)
  have hin : m i ∈ stk m i := mem_stk.mpr ⟨c, by rw [hp.2]; exact Nat.le_refl _⟩
  have asc := stk_lt m i
  have hne : stk m i ≠ [] := fun z => by rw [z] at hin; cases hin
  obtain ⟨l, z, e⟩ : ∃ l z, stk m i = l ++ [z] := ⟨(stk m i).dropLast, (stk m i).getLast hne, (List.dropLast_concat_getLast hne).symm⟩
  rw [e] at asc hin
  have hz : z ∈ stk m i := by rw [e]; simp
  obtain ⟨z1, z2⟩ := mem_stk.mp hz
  have asc2 := List.pairwise_append.mp asc
  refine ⟨l, z, e, fun nz => ?_, fun ez => ⟨?_, fun hc p t h1 h2 h3 h4 h5 h6 => ?_⟩⟩
  · have lt : m i < z := by
      rcases List.mem_append.mp hin with q | q
      · exact asc2.2.2 _ q z (by simp)
      · exact absurd (List.mem_singleton.mp q).symm nz
    have hzm : m z ≠ i := fun q => by
      have q2 := (h z (by omega)).2
      rw [q] at q2; exact nz q2.symm
    have hzn := (h z (by omega)).1
    exact ⟨m i, z, lt, by rw [hp.2]; exact z1, by rw [hp.2]; omega, hzn, by omega⟩
  · have e3 : stk m (i + 1) = (stk m i).filter fun j => decide (j ≠ m i) := by
      unfold stk
      rw [List.range_succ, List.filter_append, List.filter_filter]
      have e4 : List.filter (fun j => decide (i + 1 ≤ m j)) [i] = [] := by
        rw [List.filter_cons, if_neg (by simp; omega)]; rfl
      rw [e4, List.append_nil]
      apply List.filter_congr
      intro j hj
      have hj' := List.mem_range.mp hj
      have q1 := (h j (by omega)).2
      by_cases q : j = m i
      · have q3 : m j = i := by rw [q]; exact hp.2
        rw [decide_eq_false (show ¬ i + 1 ≤ m j by omega), decide_eq_false (show ¬ j ≠ m i from fun z => z q)]; rfl
      · have q3 : m j ≠ i := fun z => q (by rw [← z]; exact q1.symm)
        rw [decide_eq_true (show j ≠ m i from q), Bool.true_and]
        by_cases q4 : i ≤ m j
        · rw [decide_eq_true q4, decide_eq_true (show i + 1 ≤ m j by omega)]
        · rw [decide_eq_false q4, decide_eq_false (show ¬ i + 1 ≤ m j by omega)]
    rw [e3, e, List.filter_append]
    have e5 : List.filter (fun j => decide (j ≠ m i)) [z] = [] := by
      rw [List.filter_cons, if_neg (by simp [ez])]; rfl
    rw [e5, List.append_nil]
    apply List.filter_eq_self.mpr
    intro j hj
    have := asc2.2.2 j hj z (by simp)
    exact decide_eq_true (by omega)
  · by_cases q : m p < i
    · exact hc p t h1 h2 h3 h4 h5 q
    · have q2 : m p = i := by omega
      have q3 := (h p (by omega)).2
      rw [q2] at q3
      have ht : t ∈ stk m i := mem_stk.mpr ⟨by omega, by omega⟩
      rw [e] at ht
      rcases List.mem_append.mp ht with y | y
      · have := asc2.2.2 t y z (by simp)
        omega
      · have := List.mem_singleton.mp y
        omega
theorem stk_own {n i : Nat} {m : Nat → Nat} (h : Ivo n m) (hi : i < n) (c : m i = i) : stk m (i + 1) = stk m i := by
  unfold stk
  rw [List.range_succ, List.filter_append]
  have e4 : List.filter (fun j => decide (i + 1 ≤ m j)) [i] = [] := by
    rw [List.filter_cons, if_neg (by simp; omega)]; rfl
  rw [e4, List.append_nil]
  apply List.filter_congr
  intro j hj
  have hj' := List.mem_range.mp hj
  have e : m j ≠ i := fun z => by
    have z2 := (h j (by omega)).2
    rw [z, c] at z2; omega
  by_cases q : i ≤ m j
  · rw [decide_eq_true q, decide_eq_true (show i + 1 ≤ m j by omega)]
  · rw [decide_eq_false q, decide_eq_false (show ¬ i + 1 ≤ m j by omega)]
theorem clr_own {n i : Nat} {m : Nat → Nat} (h : Ivo n m) (hi : i < n) (c : m i = i) (hc : Clr n m i) : Clr n m (i + 1) := by
  intro p t h1 h2 h3 h4 h5 h6
  by_cases z : m p < i
  · exact hc p t h1 h2 h3 h4 h5 z
  · have e : m p = i := by omega
    have e2 := (h p (by omega)).2
    rw [e, c] at e2; omega
theorem clr_zero (n : Nat) (m : Nat → Nat) : Clr n m 0 := fun _ _ _ _ _ _ _ h => absurd h (Nat.not_lt_zero _)
theorem clr_end {n : Nat} {m : Nat → Nat} (hc : Clr n m n) : ¬ Crs n m := by
  rintro ⟨p, t, h1, h2, h3, h4, h5⟩
  exact hc p t h1 h2 h3 h4 h5 (by omega)

/-- do the pairs (i, j) and (p, q) cross -/
def crI (i j p q : Int) : Bool :=
  (decide ((if j < i then j else i) < p) && decide (p < (if i < j then j else i))) != (decide ((if j < i then j else i) < q) && decide (q < (if i < j then j else i)))
/-- the arms that begin ahead of i -/
def armsN (m : Nat → Nat) (i : Nat) : List (Nat × Nat) := ((List.range i).filter fun j => decide (j < m j)).map fun j => (j, m j)
theorem armsN_yes {m : Nat → Nat} {i : Nat} (c : i < m i) : armsN m (i + 1) = armsN m i ++ [(i, m i)] := by
  unfold armsN
  rw [List.range_succ, List.filter_append, List.map_append, List.filter_cons, if_pos (decide_eq_true c)]; rfl
theorem armsN_no {m : Nat → Nat} {i : Nat} (c : ¬ i < m i) : armsN m (i + 1) = armsN m i := by
  unfold armsN
  rw [List.range_succ, List.filter_append, List.map_append, List.filter_cons, if_neg (by rw [decide_eq_false c]; exact Bool.false_ne_true)]
  show _ ++ [] = _
  rw [List.append_nil]
theorem armsN_len (m : Nat → Nat) (i : Nat) : (armsN m i).length ≤ i := by
  unfold armsN
  rw [List.length_map]
  exact Nat.le_trans (List.length_filter_le _ _) (by rw [List.length_range]; exact Nat.le_refl _)
def cr2 (a b : Nat × Nat) : Bool := crI a.1 a.2 b.1 b.2
/-- no two of the pairs cross -/
def NoX (L : List (Nat × Nat)) : Prop := ∀ i j, j < i → i < L.length → cr2 (L.getD i (0, 0)) (L.getD j (0, 0)) = false
theorem cr2_of {a b c d : Nat} (h1 : a < b) (h2 : c < a) : cr2 (a, b) (c, d) = (decide (a < d) && decide (d < b)) := by
  unfold cr2 crI
  show ((decide ((if (b : Int) < a then (b : Int) else a) < c) && decide ((c : Int) < (if (a : Int) < b then (b : Int) else a))) != (decide ((if (b : Int) < a then (b : Int) else a) < d) && decide ((d : Int) < (if (a : Int) < b then (b : Int) else a)))) = _
  rw [if_neg (by omega), if_pos (by omega), decide_eq_false (show ¬ (a : Int) < c by omega)]
  by_cases e1 : a < d
  · by_cases e2 : d < b
    · rw [decide_eq_true e1, decide_eq_true e2, decide_eq_true (show (a : Int) < d by omega), decide_eq_true (show (d : Int) < b by omega)]; rfl
    · rw [decide_eq_true e1, decide_eq_false e2, decide_eq_true (show (a : Int) < d by omega), decide_eq_false (show ¬ (d : Int) < b by omega)]; rfl
  · rw [decide_eq_false e1, decide_eq_false (show ¬ (a : Int) < d by omega)]; rfl
def begN (m : Nat → Nat) (n : Nat) : List Nat := (List.range n).filter fun j => decide (j < m j)
theorem begN_mem {m : Nat → Nat} {n j : Nat} : j ∈ begN m n ↔ j < n ∧ j < m j := by
  unfold begN; rw [List.mem_filter, List.mem_range, decide_eq_true_eq]
theorem begN_lt (m : Nat → Nat) (n : Nat) : (begN m n).Pairwise (· < ·) := List.Pairwise.filter _ List.pairwise_lt_range
theorem armsN_eq (m : Nat → Nat) (n : Nat) : armsN m n = (begN m n).map fun j => (j, m j) := rfl
theorem arms_getD {m : Nat → Nat} {n i : Nat} (h : i < (begN m n).length) : (armsN m n).getD i (0, 0) = ((begN m n)[i], m (begN m n)[i]) := by
  rw [armsN_eq, List.getD_eq_getElem?_getD, List.getElem?_map, List.getElem?_eq_getElem h]; rfl
theorem nox_iff {n : Nat} {m : Nat → Nat} (h : Prd n m) : NoX (armsN m n) ↔ ¬ Crs n m := by
  have hl : (armsN m n).length = (begN m n).length := by rw [armsN_eq, List.length_map]
  have asc := List.pairwise_iff_getElem.mp (begN_lt m n)
  constructor
  · rintro hN ⟨p, t, h1, h2, h3, h4, h5⟩
    obtain ⟨ip, hip, ep⟩ := List.mem_iff_getElem.mp (begN_mem.mpr ⟨(by omega : p < n), (by omega : p < m p)⟩)
    obtain ⟨it, hit, et⟩ := List.mem_iff_getElem.mp (begN_mem.mpr ⟨h5, (by omega : t < m t)⟩)
    have lt : ip < it := by
      rcases Nat.lt_trichotomy ip it with z | z | z
      · exact z
      · subst z; omega
      · have := asc it ip hit hip z; omega
    have := hN it ip lt (by omega)
    rw [arms_getD hit, arms_getD hip, ep, et, cr2_of (by omega) h1, decide_eq_true h2, decide_eq_true h3] at this
    cases this
  · intro hC i j hji hi
    have hi' : i < (begN m n).length := by omega
    have hj' : j < (begN m n).length := by omega
    rw [arms_getD hi', arms_getD hj']
    obtain ⟨a1, a2⟩ := begN_mem.mp (List.getElem_mem hi')
    obtain ⟨c1, c2⟩ := begN_mem.mp (List.getElem_mem hj')
    have lt := asc j i hj' hi' hji
    rw [cr2_of a2 lt]
    cases e : (decide ((begN m n)[i] < m (begN m n)[j]) && decide (m (begN m n)[j] < m (begN m n)[i])) with
    | false => rfl
    | true =>
      obtain ⟨e1, e2⟩ := Bool.and_eq_true_iff.mp e
      exact absurd ⟨_, _, lt, of_decide_eq_true e1, of_decide_eq_true e2, (h _ a1).1, a1⟩ hC
end Hm

set_option linter.all false
/-! Exchanges of two arms: plain Lean. -/
namespace Hm
/-- a and b shake hands, c and d -/
def two (m : Nat → Nat) (a b c d : Nat) : Nat → Nat := fun x => if x = a then b else if x = b then a else if x = c then d else if x = d then c else m x
theorem two_prd {n : Nat} {m : Nat → Nat} {a b c d : Nat} (h : Prd n m) (ha : a < n) (hb : b < n) (hc : c < n) (hd : d < n) (ab : a ≠ b) (ac : a ≠ c) (ad : a ≠ d) (bc : b ≠ c) (bd : b ≠ d) (cd : c ≠ d)
    (cl : ∀ x, x < n → x ≠ a → x ≠ b → x ≠ c → x ≠ d → m x ≠ a ∧ m x ≠ b ∧ m x ≠ c ∧ m x ≠ d) : Prd n (two m a b c d) := by
  intro x hx
  have hm := h x hx
  have e1 : two m a b c d a = b := by unfold two; rw [if_pos rfl]
  have e2 : two m a b c d b = a := by unfold two; rw [if_neg ab.symm, if_pos rfl]
  have e3 : two m a b c d c = d := by unfold two; rw [if_neg ac.symm, if_neg bc.symm, if_pos rfl]
  have e4 : two m a b c d d = c := by unfold two; rw [if_neg ad.symm, if_neg bd.symm, if_neg cd.symm, if_pos rfl]
  by_cases xa : x = a
  · subst xa; rw [e1, e2]; exact ⟨hb, ab.symm, rfl⟩
  by_cases xb : x = b
  · subst xb; rw [e2, e1]; exact ⟨ha, ab, rfl⟩
  by_cases xc : x = c
  · subst xc; rw [e3, e4]; exact ⟨hd, cd.symm, rfl⟩
  by_cases xd : x = d
  · subst xd; rw [e4, e3]; exact ⟨hc, cd, rfl⟩
  obtain ⟨y1, y2, y3, y4⟩ := cl x hx xa xb xc xd
  have e5 : ∀ y, y ≠ a → y ≠ b → y ≠ c → y ≠ d → two m a b c d y = m y := fun y z1 z2 z3 z4 => by unfold two; rw [if_neg z1, if_neg z2, if_neg z3, if_neg z4]
  rw [e5 x xa xb xc xd, e5 _ y1 y2 y3 y4]
  exact hm
/-- the arms of i and j exchanged -/
def swN (m : Nat → Nat) (i j : Nat) : Nat → Nat := if m i < j then two m i (m j) (m i) j else two m i j (m j) (m i)
/-- two lesser people of an arrangement, in their order -/
structure Les (n : Nat) (m : Nat → Nat) (i j : Nat) : Prop where
  p : Prd n m
  x : ¬ Crs n m
  ij : i < j
  jn : j < n
  im : i < m i
  jm : j < m j
theorem Les.way {n : Nat} {m : Nat → Nat} {i j : Nat} (h : Les n m i j) : (m i < j ∧ i < m i ∧ j < m j ∧ m j < n ∧ m i < n) ∨ (¬ m i < j ∧ j < m j ∧ m j < m i ∧ m i < n) := by
  have h1 := h.p i (Nat.lt_trans h.ij h.jn)
  have h2 := h.p j h.jn
  have a1 := h.im
  have a2 := h.jm
  have a3 := h.ij
  by_cases c : m i < j
  · exact .inl ⟨c, a1, a2, h2.1, h1.1⟩
  · refine .inr ⟨c, a2, ?_, h1.1⟩
    have e1 : m i ≠ j := fun z => by
      have y := h1.2.2
      rw [z] at y; omega
    have e2 : m i ≠ m j := fun z => by
      have y := h1.2.2
      rw [z, h2.2.2] at y; omega
    by_cases c2 : m j < m i
    · exact c2
    · exact absurd ⟨i, j, a3, by omega, by omega, h2.1, h.jn⟩ h.x
theorem Les.prd {n : Nat} {m : Nat → Nat} {i j : Nat} (h : Les n m i j) : Prd n (swN m i j) := by
  have hi := h.p i (Nat.lt_trans h.ij h.jn)
  have hj := h.p j h.jn
  have cl : ∀ x, x < n → x ≠ i → x ≠ m j → x ≠ m i → x ≠ j → m x ≠ i ∧ m x ≠ m j ∧ m x ≠ m i ∧ m x ≠ j := fun x hx a b c d => by
    have hx' := (h.p x hx).2.2
    refine ⟨fun z => ?_, fun z => ?_, fun z => ?_, fun z => ?_⟩
    · rw [z] at hx'; exact c hx'.symm
    · rw [z, hj.2.2] at hx'; exact d hx'.symm
    · rw [z, hi.2.2] at hx'; exact a hx'.symm
    · rw [z] at hx'; exact b hx'.symm
  unfold swN
  have a3 := h.ij
  have a4 := h.jn
  rcases h.way with ⟨c, c1, c2, c3, c4⟩ | ⟨c, c1, c2, c3⟩
  · rw [if_pos c]
    exact two_prd h.p (by omega) c3 c4 h.jn (by omega) (by omega) (by omega) (by omega) (by omega) (by omega) cl
  · rw [if_neg c]
    refine two_prd h.p (by omega) h.jn (by omega) c3 (by omega) (by omega) (by omega) (by omega) (by omega) (by omega) fun x hx a b c d => ?_
    obtain ⟨y1, y2, y3, y4⟩ := cl x hx a c d b
    exact ⟨y1, y4, y2, y3⟩
theorem sort4 {n : Nat} {m : Nat → Nat} {i j : Nat} {ms : List Int} (h : Les n m i j) (hp : ms.Perm [(i : Int), (j : Int), (m i : Int), (m j : Int)]) (hs : ms.Pairwise (· ≤ ·)) :
    ms = if m i < j then [(i : Int), (m i : Int), (j : Int), (m j : Int)] else [(i : Int), (j : Int), (m j : Int), (m i : Int)] := by
  have a3 := h.ij
  have anti : ∀ (a b : Int) (l : List Int), a ∈ ms → b ∈ l → a ≤ b → b ≤ a → a = b := fun a b l _ _ p q => Int.le_antisymm p q
  rcases h.way with ⟨c, c1, c2, c3, c4⟩ | ⟨c, c1, c2, c3⟩
  · rw [if_pos c]
    refine List.Perm.eq_of_pairwise (le := (· ≤ ·)) (fun a b p q => anti a b _ p q) hs ?_ (hp.trans ?_)
    · simp
      omega
    · exact (List.Perm.swap _ _ _).cons _
  · rw [if_neg c]
    refine List.Perm.eq_of_pairwise (le := (· ≤ ·)) (fun a b p q => anti a b _ p q) hs ?_ (hp.trans ?_)
    · simp
      omega
    · exact ((List.Perm.swap _ _ _).cons _).cons _
/-- a row of numbers -/
def rowL (n : Nat) (m : Nat → Nat) : List Nat := (List.range n).map m
theorem rowL_len (n : Nat) (m : Nat → Nat) : (rowL n m).length = n := by unfold rowL; rw [List.length_map, List.length_range]
theorem rowL_get {n : Nat} {m : Nat → Nat} {i : Nat} (h : i < n) : (rowL n m)[i]? = some (m i) := by
  unfold rowL; rw [List.getElem?_map, List.getElem?_range h]; rfl
theorem rowL_ext {n : Nat} {m m' : Nat → Nat} (h : ∀ i, i < n → m i = m' i) : rowL n m = rowL n m' := by
  unfold rowL
  apply List.map_congr_left
  intro i hi
  exact h i (List.mem_range.mp hi)
theorem rowL_set (n : Nat) (m : Nat → Nat) (a v : Nat) : (rowL n m).set a v = rowL n (fun x => if x = a then v else m x) := by
  apply List.ext_getElem?
  intro i
  rw [List.getElem?_set, rowL_len]
  by_cases hi : i < n
  · rw [rowL_get hi, rowL_get hi]
    by_cases e : a = i
    · subst e; rw [if_pos rfl, if_pos hi, if_pos rfl]
    · rw [if_neg e, if_neg (Ne.symm e)]
  · have e1 : (rowL n m)[i]? = none := List.getElem?_eq_none (by rw [rowL_len]; omega)
    have e2 : (rowL n (fun x => if x = a then v else m x))[i]? = none := List.getElem?_eq_none (by rw [rowL_len]; omega)
    rw [e1, e2]
    split
    · next e => subst e; rw [if_neg hi]
    · rfl
theorem row_two {n : Nat} {m : Nat → Nat} {a b c d : Nat} (ab : a ≠ b) (ac : a ≠ c) (ad : a ≠ d) (bc : b ≠ c) (bd : b ≠ d) (cd : c ≠ d) :
    ((((rowL n m).set a b).set b a).set c d).set d c = rowL n (two m a b c d) := by
  rw [rowL_set, rowL_set, rowL_set, rowL_set]
  congr 1
  funext x
  unfold two
  by_cases xa : x = a
  · subst xa; rw [if_neg ad, if_neg ac, if_neg ab, if_pos rfl, if_pos rfl]
  by_cases xb : x = b
  · subst xb; rw [if_neg bd, if_neg bc, if_pos rfl, if_neg xa, if_pos rfl]
  by_cases xc : x = c
  · subst xc; rw [if_neg cd, if_pos rfl, if_neg xa, if_neg xb, if_pos rfl]
  by_cases xd : x = d
  · subst xd; rw [if_pos rfl, if_neg xa, if_neg xb, if_neg xc, if_pos rfl]
  rw [if_neg xd, if_neg xc, if_neg xb, if_neg xa, if_neg xa, if_neg xb, if_neg xc, if_neg xd]
/-! ### pairs in any order -/
theorem mem_arms {n : Nat} {m : Nat → Nat} {p : Nat × Nat} : p ∈ armsN m n ↔ p.1 < n ∧ p.1 < m p.1 ∧ p.2 = m p.1 := by
  rw [armsN_eq, List.mem_map]
  constructor
  · rintro ⟨j, hj, rfl⟩
    obtain ⟨a, b⟩ := begN_mem.mp hj
    exact ⟨a, b, rfl⟩
  · rintro ⟨a, b, c⟩
    exact ⟨p.1, begN_mem.mpr ⟨a, b⟩, by rw [← c]⟩
theorem cr_iff {n : Nat} {m : Nat → Nat} (h : Prd n m) {x y : Nat} (hx : x < n) (hy : y < n) (x1 : x < m x) (y1 : y < m y) (ne : x ≠ y) :
    cr2 (x, m x) (y, m y) = true ↔ (x < y ∧ y < m x ∧ m x < m y) ∨ (y < x ∧ x < m y ∧ m y < m x) := by
  have h1 := h x hx
  have h2 := h y hy
  have e1 : m x ≠ m y := fun z => by
    have q := h1.2.2
    rw [z, h2.2.2] at q; exact ne q.symm
  have e2 : m x ≠ y := fun z => by
    have q := h1.2.2
    rw [z] at q; omega
  have e3 : m y ≠ x := fun z => by
    have q := h2.2.2
    rw [z] at q; omega
  unfold cr2 crI
  dsimp only
  rw [if_neg (by omega), if_pos (by omega)]
  rw [bne_iff_ne, ne_eq, Bool.eq_iff_iff]
  simp only [Bool.and_eq_true, decide_eq_true_eq]
  omega
theorem nox_mem {n : Nat} {m : Nat → Nat} {L : List (Nat × Nat)} (h : Prd n m) (mem : ∀ p, p ∈ L ↔ p ∈ armsN m n) (nd : L.Nodup) : NoX L ↔ ¬ Crs n m := by
  have at' : ∀ i, (hi : i < L.length) → ∃ x, L[i] = (x, m x) ∧ x < n ∧ x < m x := fun i hi => by
    obtain ⟨a, b, c⟩ := mem_arms.mp ((mem _).mp (List.getElem_mem hi))
    exact ⟨L[i].1, by rw [← c], a, b⟩
  have gd : ∀ i, (hi : i < L.length) → L.getD i (0, 0) = L[i] := fun i hi => by rw [List.getD_eq_getElem?_getD, List.getElem?_eq_getElem hi]; rfl
  constructor
  · rintro z ⟨p, t, h1, h2, h3, h4, h5⟩
    have hp : p < n := by omega
    have m1 : (p, m p) ∈ L := (mem _).mpr (mem_arms.mpr ⟨hp, by dsimp only; omega, rfl⟩)
    have m2 : (t, m t) ∈ L := (mem _).mpr (mem_arms.mpr ⟨h5, by dsimp only; omega, rfl⟩)
    obtain ⟨a, ha, ea⟩ := List.getElem_of_mem m1
    obtain ⟨b, hb, eb⟩ := List.getElem_of_mem m2
    have cx : cr2 (p, m p) (t, m t) = true := (cr_iff h hp h5 (by omega) (by omega) (by omega)).mpr (.inl ⟨h1, h2, h3⟩)
    have cy : cr2 (t, m t) (p, m p) = true := (cr_iff h h5 hp (by omega) (by omega) (by omega)).mpr (.inr ⟨h1, h2, h3⟩)
    rcases Nat.lt_trichotomy a b with c | c | c
    · have q := z b a c hb
      rw [gd b hb, gd a ha, ea, eb, cy] at q; cases q
    · subst c
      rw [ea] at eb
      have q := congrArg Prod.fst eb
      dsimp only at q; omega
    · have q := z a b c ha
      rw [gd b hb, gd a ha, ea, eb, cx] at q; cases q
  · intro z i j hij hi
    obtain ⟨x, ex, x1, x2⟩ := at' i hi
    obtain ⟨y, ey, y1, y2⟩ := at' j (by omega)
    rw [gd i hi, gd j (by omega), ex, ey]
    have ne : x ≠ y := fun q => by
      have := (List.pairwise_iff_getElem.mp nd) j i (by omega) hi hij
      rw [ex, ey, q] at this
      exact this rfl
    cases c : cr2 (x, m x) (y, m y) with
    | false => rfl
    | true =>
      exfalso
      rcases (cr_iff h x1 y1 x2 y2 ne).mp c with ⟨a, b, c⟩ | ⟨a, b, c⟩
      · exact z ⟨x, y, a, b, c, (h y y1).1, y1⟩
      · exact z ⟨y, x, a, b, c, (h x x1).1, x1⟩
/-- the arms after an exchange, as they are put together -/
def madeN (m : Nat → Nat) (i j : Nat) : List (Nat × Nat) := if m i < j then [(i, m j), (m i, j)] else [(i, j), (m j, m i)]
def restN (m : Nat → Nat) (n i j : Nat) : List (Nat × Nat) := (armsN m n).filter fun p => decide (p.1 ≠ i) && decide (p.1 ≠ j)
theorem arms_nodup (m : Nat → Nat) (n : Nat) : (armsN m n).Nodup := by
  rw [armsN_eq]
  refine List.Pairwise.map _ (fun a b hab => ?_) (begN_lt m n)
  intro z
  have := congrArg Prod.fst z
  dsimp only at this; omega
theorem mem_rest {m : Nat → Nat} {n i j : Nat} {p : Nat × Nat} : p ∈ restN m n i j ↔ p ∈ armsN m n ∧ p.1 ≠ i ∧ p.1 ≠ j := by
  unfold restN
  rw [List.mem_filter, Bool.and_eq_true, decide_eq_true_eq, decide_eq_true_eq]
theorem sw_mem {n : Nat} {m : Nat → Nat} {i j : Nat} (h : Les n m i j) (p : Nat × Nat) : p ∈ restN m n i j ++ madeN m i j ↔ p ∈ armsN (swN m i j) n := by
  obtain ⟨x, y⟩ := p
  rw [List.mem_append, mem_rest, mem_arms, mem_arms]
  have a3 := h.ij
  have a4 := h.jn
  have hi := h.p i (by omega)
  have hj := h.p j h.jn
  dsimp only
  unfold madeN swN
  rcases h.way with ⟨c, c1, c2, c3, c4⟩ | ⟨c, c1, c2, c3⟩
  · rw [if_pos c, if_pos c]
    simp only [List.mem_cons, Prod.mk.injEq, List.not_mem_nil, or_false]
    by_cases x1 : x = i
    · subst x1
      have e : two m x (m j) (m x) j x = m j := if_pos rfl
      rw [e]; omega
    by_cases x2 : x = m j
    · subst x2
      have e : two m i (m j) (m i) j (m j) = i := by unfold two; rw [if_neg x1, if_pos rfl]
      rw [e]; rw [hj.2.2]; omega
    by_cases x3 : x = m i
    · subst x3
      have e : two m i (m j) (m i) j (m i) = j := by unfold two; rw [if_neg x1, if_neg x2, if_pos rfl]
      rw [e]; rw [hi.2.2]; omega
    by_cases x4 : x = j
    · subst x4
      have e : two m i (m x) (m i) x x = m i := by unfold two; rw [if_neg x1, if_neg x2, if_neg x3, if_pos rfl]
      rw [e]; omega
    have e : two m i (m j) (m i) j x = m x := by unfold two; rw [if_neg x1, if_neg x2, if_neg x3, if_neg x4]
    rw [e]; omega
  · rw [if_neg c, if_neg c]
    simp only [List.mem_cons, Prod.mk.injEq, List.not_mem_nil, or_false]
    by_cases x1 : x = i
    · subst x1
      have e : two m x j (m j) (m x) x = j := if_pos rfl
      rw [e]; omega
    by_cases x2 : x = j
    · subst x2
      have e : two m i x (m x) (m i) x = i := by unfold two; rw [if_neg x1, if_pos rfl]
      rw [e]; omega
    by_cases x3 : x = m j
    · subst x3
      have e : two m i j (m j) (m i) (m j) = m i := by unfold two; rw [if_neg x1, if_neg x2, if_pos rfl]
      rw [e]; rw [hj.2.2]; omega
    by_cases x4 : x = m i
    · subst x4
      have e : two m i j (m j) (m i) (m i) = m j := by unfold two; rw [if_neg x1, if_neg x2, if_neg x3, if_pos rfl]
      rw [e]; rw [hi.2.2]; omega
    have e : two m i j (m j) (m i) x = m x := by unfold two; rw [if_neg x1, if_neg x2, if_neg x3, if_neg x4]
    rw [e]; omega
theorem sw_nodup {n : Nat} {m : Nat → Nat} {i j : Nat} (h : Les n m i j) : (restN m n i j ++ madeN m i j).Nodup := by
  have a3 := h.ij
  have a4 := h.jn
  have hi := h.p i (by omega)
  have hj := h.p j h.jn
  refine List.nodup_append.mpr ⟨List.Pairwise.filter _ (arms_nodup m n), ?_, ?_⟩
  · unfold madeN
    rcases h.way with ⟨c, c1, c2, c3, c4⟩ | ⟨c, c1, c2, c3⟩
    · rw [if_pos c]; simp; omega
    · rw [if_neg c]; simp; omega
  · intro p hp q hq z
    subst z
    obtain ⟨r1, r2, r3⟩ := mem_rest.mp hp
    obtain ⟨s1, s2, s3⟩ := mem_arms.mp r1
    obtain ⟨x, y⟩ := p
    dsimp only at r2 r3 s1 s2 s3
    unfold madeN at hq
    rcases h.way with ⟨c, c1, c2, c3, c4⟩ | ⟨c, c1, c2, c3⟩
    · rw [if_pos c] at hq
      simp only [List.mem_cons, Prod.mk.injEq, List.not_mem_nil, or_false] at hq
      rcases hq with ⟨q1, q2⟩ | ⟨q1, q2⟩
      · exact r2 q1
      · subst q1; rw [hi.2.2] at s2; omega
    · rw [if_neg c] at hq
      simp only [List.mem_cons, Prod.mk.injEq, List.not_mem_nil, or_false] at hq
      rcases hq with ⟨q1, q2⟩ | ⟨q1, q2⟩
      · exact r2 q1
      · subst q1; rw [hj.2.2] at s2; omega
/-! ### seated -/
def seatN (n : Nat) (L : List (Nat × Nat)) : List Nat := L.foldl (fun ns p => (ns.set p.1 p.2).set p.2 p.1) (List.replicate n 0)
theorem seat_len : ∀ (L : List (Nat × Nat)) (ns : List Nat), (L.foldl (fun ns p => (ns.set p.1 p.2).set p.2 p.1) ns).length = ns.length
  | [], _ => rfl
  | p :: L, ns => by rw [List.foldl_cons, seat_len L, List.length_set, List.length_set]
theorem seat_get {n : Nat} {m : Nat → Nat} (h : Prd n m) : ∀ (L : List (Nat × Nat)) (ns : List Nat), ns.length = n → (∀ p ∈ L, p ∈ armsN m n) → ∀ x, x < n → (ns[x]? = some (m x) ∨ ∃ p ∈ L, x = p.1 ∨ x = p.2) →
    (L.foldl (fun ns p => (ns.set p.1 p.2).set p.2 p.1) ns)[x]? = some (m x)
  | [], ns, hn, _, x, hx, z => by
    rcases z with z | ⟨p, hp, _⟩
    · exact z
    · cases hp
  | p :: L, ns, hn, hL, x, hx, z => by
    rw [List.foldl_cons]
    obtain ⟨a, b, c⟩ := mem_arms.mp (hL p (by simp))
    refine seat_get h L _ (by rw [List.length_set, List.length_set]; exact hn) (fun q hq => hL q (by simp [hq])) x hx ?_
    have l1 : (ns.set p.1 p.2).length = n := by rw [List.length_set]; exact hn
    by_cases e1 : x = p.2
    · left
      rw [List.getElem?_set, if_pos e1.symm, if_pos (by rw [l1, ← e1]; exact hx), e1, c, (h _ a).2.2]
    by_cases e2 : x = p.1
    · left
      rw [List.getElem?_set, if_neg (Ne.symm e1), List.getElem?_set, if_pos e2.symm, if_pos (by rw [hn, ← e2]; exact hx), e2, c]
    rcases z with z | ⟨q, hq, y⟩
    · left
      rw [List.getElem?_set, if_neg (Ne.symm e1), List.getElem?_set, if_neg (Ne.symm e2)]; exact z
    · rcases List.mem_cons.mp hq with rfl | hq
      · rcases y with y | y
        · exact absurd y e2
        · exact absurd y e1
      · exact .inr ⟨q, hq, y⟩
theorem seat_row {n : Nat} {m : Nat → Nat} {L : List (Nat × Nat)} (h : Prd n m) (mem : ∀ p, p ∈ L ↔ p ∈ armsN m n) : seatN n L = rowL n m := by
  apply List.ext_getElem?
  intro x
  have hl : (seatN n L).length = n := by unfold seatN; rw [seat_len, List.length_replicate]
  by_cases hx : x < n
  · rw [rowL_get hx]
    unfold seatN
    refine seat_get h L _ List.length_replicate (fun p hp => (mem p).mp hp) x hx (.inr ?_)
    have q := h x hx
    by_cases c : x < m x
    · exact ⟨(x, m x), (mem _).mpr (mem_arms.mpr ⟨hx, c, rfl⟩), .inl rfl⟩
    · exact ⟨(m x, x), (mem _).mpr (mem_arms.mpr ⟨q.1, by dsimp only; rw [q.2.2]; omega, q.2.2.symm⟩), .inr rfl⟩
  · rw [List.getElem?_eq_none (by omega), List.getElem?_eq_none (by rw [rowL_len]; omega)]
/-! ### the possible exchanges -/
def crsB (n : Nat) (m : Nat → Nat) : Bool := (List.range n).any fun p => (List.range n).any fun t => decide (p < t ∧ t < m p ∧ m p < m t ∧ m t < n)
theorem crsB_iff {n : Nat} {m : Nat → Nat} : crsB n m = true ↔ Crs n m := by
  unfold crsB Crs
  constructor
  · intro h
    obtain ⟨p, hp, h⟩ := List.any_eq_true.mp h
    obtain ⟨t, ht, h⟩ := List.any_eq_true.mp h
    obtain ⟨a, b, c, d⟩ := of_decide_eq_true h
    exact ⟨p, t, a, b, c, d, List.mem_range.mp ht⟩
  · rintro ⟨p, t, a, b, c, d, e⟩
    exact List.any_eq_true.mpr ⟨p, List.mem_range.mpr (by omega), List.any_eq_true.mpr ⟨t, List.mem_range.mpr e, decide_eq_true ⟨a, b, c, d⟩⟩⟩
def exsN (n : Nat) (m : Nat → Nat) : List (Nat × Nat) := (begN m n).flatMap fun i => ((begN m n).filter fun j => decide (i < j) && !crsB n (swN m i j)).map fun j => (i, j)
theorem mem_ex {n : Nat} {m : Nat → Nat} {p : Nat × Nat} : p ∈ exsN n m ↔ p.1 < p.2 ∧ p.2 < n ∧ p.1 < m p.1 ∧ p.2 < m p.2 ∧ ¬ Crs n (swN m p.1 p.2) := by
  unfold exsN
  rw [List.mem_flatMap]
  constructor
  · rintro ⟨i, hi, h⟩
    obtain ⟨j, hj, rfl⟩ := List.mem_map.mp h
    obtain ⟨a, b⟩ := List.mem_filter.mp hj
    rw [Bool.and_eq_true, decide_eq_true_eq] at b
    obtain ⟨q1, q2⟩ := begN_mem.mp hi
    obtain ⟨q3, q4⟩ := begN_mem.mp a
    refine ⟨b.1, q3, q2, q4, fun z => ?_⟩
    rw [crsB_iff.mpr z] at b; exact Bool.noConfusion b.2
  · rintro ⟨a, b, c, d, e⟩
    refine ⟨p.1, begN_mem.mpr ⟨by omega, c⟩, List.mem_map.mpr ⟨p.2, List.mem_filter.mpr ⟨begN_mem.mpr ⟨b, d⟩, ?_⟩, rfl⟩⟩
    rw [Bool.and_eq_true, decide_eq_true_eq]
    refine ⟨a, ?_⟩
    cases q : crsB n (swN m p.1 p.2) with
    | false => rfl
    | true => exact absurd (crsB_iff.mp q) e
/-- what becomes of an exchange -/
inductive Res | arm (k : Int) | blk (i j : Int) | arr (m : Nat → Nat)
def lesB (n : Nat) (m : Nat → Nat) (i : Int) : Bool := decide (0 ≤ i) && decide (i < n) && decide (i.toNat < m i.toNat)
def dueN (n : Nat) (m : Nat → Nat) (i j : Int) : Res :=
  if lesB n m i = true then (if lesB n m j = true then (if i < j ∧ crsB n (swN m i.toNat j.toNat) = false then .arr (swN m i.toNat j.toNat) else .blk i j) else .arm j) else .arm i
theorem les_of {n : Nat} {m : Nat → Nat} {i j : Int} (h : Prd n m) (x : ¬ Crs n m) (hi : lesB n m i = true) (hj : lesB n m j = true) (ij : i < j) : Les n m i.toNat j.toNat := by
  unfold lesB at hi hj
  simp only [Bool.and_eq_true, decide_eq_true_eq] at hi hj
  exact ⟨h, x, by omega, by omega, hi.2, hj.2⟩
theorem due_arr {n : Nat} {m m' : Nat → Nat} {i j : Int} (h : Prd n m) (x : ¬ Crs n m) (e : dueN n m i j = .arr m') : Prd n m' ∧ ¬ Crs n m' := by
  unfold dueN at e
  split at e
  · next c1 =>
    split at e
    · next c2 =>
      split at e
      · next c3 =>
        cases e
        refine ⟨(les_of h x c1 c2 c3.1).prd, fun z => ?_⟩
        rw [crsB_iff.mpr z] at c3; exact Bool.noConfusion c3.2
      · cases e
    · cases e
  · cases e
def tourN (n : Nat) : (Nat → Nat) → List (Int × Int) → Res
  | m, [] => .arr m
  | m, p :: L => match dueN n m p.1 p.2 with
    | .arr m' => tourN n m' L
    | r => r
end Hm

set_option Elab.async false
set_option linter.all false
set_option maxRecDepth 100000
set_option maxHeartbeats 4000000
/-! Lists that are being filled; walks in walks. -/
namespace Hs
open PySem PySem.Spec PyProof.Rows L2
section
variable {K : PySem.W.Frag}
theorem dpAll_len {K : PySem.W.Frag} {H : Hp} : ∀ {ds : List PyData} {xs : List V}, DpAll K H xs ds → xs.length = ds.length
  | [], _, h => by cases h; rfl
  | _ :: ds, _, h => by cases h with | cons _ r => rw [List.length_cons, List.length_cons, dpAll_len r]
theorem dpAll_get {K : PySem.W.Frag} {H : Hp} : ∀ {ds : List PyData} {xs : List V} {i : Nat} {x : V}, DpAll K H xs ds → xs[i]? = some x → Dp K H x (ds.getD i .none)
  | [], _, _, _, h, e => by cases h; simp at e
  | d :: ds, _, 0, x, h, e => by
    cases h with
    | cons q _ =>
      have z := Option.some.inj e
      subst z
      exact q
  | d :: ds, _, i + 1, x, h, e => by
    cases h with
    | cons _ r => exact dpAll_get (i := i) r e
theorem dpAll_snoc {K : PySem.W.Frag} {H : Hp} : ∀ {ds : List PyData} {xs : List V} {d : PyData} {x : V}, DpAll K H xs ds → Dp K H x d → DpAll K H (xs ++ [x]) (ds ++ [d])
  | [], _, _, _, h, q => by cases h; exact .cons q .nil
  | _ :: _, _, _, _, h, q => by cases h with | cons a b => exact .cons a (dpAll_snoc b q)
/-- a list that is new in H may grow -/
theorem same_grow {H G : Hp} {D : Addr} {o : HO} (nD : H D = none) (sm : Same H G) : Same H (upd G D o) := fun b z e => by rw [upd_ne (ne_of_none e nD)]; exact sm b z e
/-- the heap without D -/
def hid (G : Hp) (D : Addr) : Hp := fun b => if b = D then none else G b
theorem hid_ne {G : Hp} {D b : Addr} (h : b ≠ D) : hid G D b = G b := if_neg h
theorem hid_at {G : Hp} {D : Addr} : hid G D D = none := if_pos rfl
theorem hid_same (G : Hp) (D : Addr) : Same (hid G D) G := fun b z e => by
  by_cases h : b = D
  · rw [h, hid_at] at e; cases e
  · rw [hid_ne h] at e; exact e
theorem hid_upd {G : Hp} {D : Addr} {o : HO} : hid (upd G D o) D = hid G D := by
  funext b
  by_cases h : b = D
  · rw [h, hid_at, hid_at]
  · rw [hid_ne h, hid_ne h, upd_ne h]
theorem hid_mono {G G' : Hp} {D : Addr} (e : Same G G') : Same (hid G D) (hid G' D) := fun b z q => by
  by_cases h : b = D
  · rw [h, hid_at] at q; cases q
  · rw [hid_ne h] at q ⊢; exact e b z q
theorem hid_id {G : Hp} {D : Addr} (h : G D = none) : hid G D = G := by
  funext b
  by_cases e : b = D
  · rw [e, hid_at, h]
  · exact hid_ne e
/-- a list or a tuple -/
def SqA (K : PySem.W.Frag) (H : Hp) (a : Addr) (xs : List V) : Prop := SqT K H a xs ∨ SqL K H a xs
theorem same_sqA {H G : Hp} {a : Addr} {xs : List V} (e : Same H G) (h : SqA K H a xs) : SqA K G a xs := h.imp (same_tup e) e.seq
/-- what is new in G beside H -/
def nw (H G : Hp) : Hp := fun a => match H a with | none => G a | some _ => none
theorem nw_at {H G : Hp} {a : Addr} (h : H a = none) : nw H G a = G a := by unfold nw; rw [h]
theorem nw_old {H G : Hp} {a : Addr} {o : HO} (h : H a = some o) : nw H G a = none := by unfold nw; rw [h]
theorem nw_get {H G : Hp} {a : Addr} {o : HO} (h : nw H G a = some o) : H a = none ∧ G a = some o := by
  cases e : H a with
  | none => rw [nw_at e] at h; exact ⟨rfl, h⟩
  | some u => rw [nw_old e] at h; cases h
theorem nw_same (H G : Hp) : Same (nw H G) G := fun a o h => (nw_get h).2
theorem nw_to {H G H' G' : Hp} (h : ∀ a o, H a = none → G a = some o → H' a = none ∧ G' a = some o) : Same (nw H G) (nw H' G') := fun a o e => by
  obtain ⟨e1, e2⟩ := nw_get e
  obtain ⟨z1, z2⟩ := h a o e1 e2
  rw [nw_at z1]; exact z2
theorem small_line {n : Nat} (h : n < 100000) : n < sizeLine := by rw [sizeLine_eq]; omega
/-- what stands at D is a list that is new in H, its items the data ds; what stood in H stands -/
def LcI (K : PySem.W.Frag) (H : Hp) (D : Addr) (ds : List PyData) (G : Hp) : Prop := Same H G ∧ ∃ acc, G D = some (.lst acc) ∧ DpAll K (hid G D) acc ds
theorem lcI_0 {H : Hp} {D : Addr} (h : H D = none) : LcI K H D [] (upd H D (.lst [])) := ⟨same_new h, [], upd_same, .nil⟩
theorem LcI.mono {H G G' : Hp} {D : Addr} {ds : List PyData} (h : LcI K H D ds G) (s : Same G G') : LcI K H D ds G' := by
  obtain ⟨sm, acc, e, hA⟩ := h
  exact ⟨sm.trans s, acc, s _ _ e, same_dps (hid_mono s) hA⟩
theorem LcI.same {H G : Hp} {D : Addr} {ds : List PyData} (h : LcI K H D ds G) : Same H G := h.1
theorem LcI.put {H G : Hp} {D : Addr} {ds : List PyData} {y : V} {d : PyData} (h : LcI K H D ds G) (nD : H D = none) (hl : ds.length < 100000) (hy : Dp K (hid G D) y d) :
    ∃ acc, G D = some (.lst acc) ∧ acc.length < sizeLine ∧ LcI K H D (ds ++ [d]) (upd G D (.lst (acc ++ [y]))) := by
  obtain ⟨sm, acc, e, hA⟩ := h
  refine ⟨acc, e, small_line (by rw [dpAll_len hA]; exact hl), same_grow nD sm, _, upd_same, ?_⟩
  rw [hid_upd]
  exact dpAll_snoc hA hy
theorem LcI.end {H G : Hp} {D : Addr} {ds : List PyData} (h : LcI K H D ds G) : Dp K G (.ref D) (.list ds) := by
  obtain ⟨sm, acc, e, hA⟩ := h
  exact .lst (SqL.of e) (same_dps (hid_same G D) hA)
/-- a new tuple beside D -/
theorem hid_new {G : Hp} {D p : Addr} {xs : List V} {y : HO} (e : G D = some y) (np : G p = none) : hid (upd G p (.tup xs)) D p = some (.tup xs) := by
  rw [hid_ne (ne_of_none e np).symm, upd_same]
theorem dp_tup2 {H : Hp} {p : Addr} {i j : Int} (h : H p = some (.tup [.int i, .int j])) : Dp K H (.ref p) (.tuple [.int i, .int j]) := .tup (SqT.of h) (.cons (.int _) (.cons (.int _) .nil))
end
/-- two or more targets, from a list or a tuple -/
def gAny (K : PySem.W.Frag) (n : Nat) (t : TGs) : TG := fun v σ H Q => ∃ a xs, v = .ref a ∧ SqA K H a xs ∧ xs.length = n ∧ t xs σ H Q
theorem pg_any {X : Cx} {pos : Pos} {es : List Expr} {k : Nat} {t : TGs} {n : Nat} (hc : X.calm = true) (h : PGs X es t)
    (hn : (assignEach es X.env).length = n := by rfl) (hst : (assignEach es X.env).findIdx? (·.1) = none := by rfl) : PG X (.Tuple es k pos) (gAny X.K n t) := by
  refine ⟨fun pins s σ H v u Q I r hw => ?_⟩
  obtain ⟨a, xs, e, hA, hl, hw⟩ := hw
  rcases hA with hA | hA
  · exact (pg_tup hc h hn hst).run pins s σ H v u Q I r ⟨a, xs, e, hA, hl, hw⟩
  · exact (pg_lst hc h hn hst).run pins s σ H v u Q I r ⟨a, xs, e, hA, hl, hw⟩
/-- a def that may raise, called by keywords alone in a try -/
def tKw0S (sp : Sp) (n : Nat) (gp : List V → List V) (E : L2.St → XK) (tk : TA) : TE := fun σ H Q => tk σ H fun zs G => zs.length = n ∧ sp (gp zs) G Q (E σ)
theorem pe_kw0S {X : Cx} {CX : CXT} {k : Nat} {f : Addr} {fd : FuncData} {ps ks : List Str} {sp : Sp} {E : L2.St → XK} {x : Str} {p pos : Pos} {kws : List Keyword} {tk : TA} {gp : {α : Type} → List α → List α}
    (F : FnOk X.prog X.w X.K X.mg X.base CX k f fd ps sp) (hr : Room k X.A) (hg : Gl X x) (hm : X.mg x = some (.ref f)) (hk : PySem.W.keepIn X.K (.ref f) = true) (hb : KOnly fd ps ks gp) (hx : ∀ σ, PassesAt CX X σ (E σ)) (hkw : PK X kws tk)
    (hall : (backToKw pos (keywordEach kws X.env)).all (·.1.isSome) = true := by rfl) (hks : (backToKw pos (keywordEach kws X.env)).filterMap (·.1) = ks := by rfl) (hdb : (x == ("__debug__" : Str)) = false := by decide)
    (hpl : ((backTo pos (starEach [] X.env)).any (·.1) || (backToKw pos (keywordEach kws X.env)).any (·.1.isNone)) = false := by rfl) :
    PE X (.Call (.Name x p) [] kws pos) (tKw0S sp ks.length gp E tk) := by
  refine ⟨fun pins s σ H Q I h => ?_⟩
  refine wpAny_Call_Name_kw (ld_glob I hg hm ?_ hdb)
  refine PySem.W.callWith_KW0 (h₀ := X.base) I.ok.mod.kin hk hall (thn (hkw.run pos pins s σ H _ I h) fun ws s2 z => ?_) hpl
  obtain ⟨zs, G, J, rz, hl, q2⟩ := z
  refine ⟨J.kIn, ?_⟩
  rw [hks]
  have lw : ws.length = ks.length := by rw [← rz.length]; exact hl
  refine wpAny_call (codeAny_mono (F.run X.A X.stack s2 G ⟨[], ks.zip ws⟩ (gp ws) (gp zs) Q (E σ) hr J.env0 (hb.to s2 ws lw) (hb.rel rz hl) q2) fun r s' hq => ?_)
  cases r with
  | error er => exact hx σ pins G s2 er s' J hq
  | ok fl =>
    cases fl with
    | ret u => exact J.after hq
    | next => exact False.elim hq
    | brk => exact False.elim hq
    | cont => exact False.elim hq
/-- a walk whatever its body is -/
theorem it_gen {J : It} {n : Nat} {G : Hp → Prop} {Y : Nat → Hp → V → Hp → Prop} (w : Walk J n G Y) {body : V → Hp → (Hp → Prop) → Prop} {H1 : Hp} {Qd : Hp → Prop} (Pv : Nat → Hp → Prop) (h0 : Pv 0 H1) (hG : ∀ i H, i ≤ n → Pv i H → G H)
    (hs : ∀ i x H H', i < n → Pv i H → Y i H x H' → body x H' (Pv (i + 1))) (hd : ∀ H, Pv n H → Qd H) :
    ∃ W : Nat → Nat → Hp → Prop, (∃ m, W 0 m H1) ∧ ∀ i m H, W i m H → (J.stop i H ∧ Qd H) ∨ (J.go i H ∧ ∃ Nx : Hp → Prop, (∀ H', Nx H' → ∃ m', m' < m ∧ W (i + 1) m' H') ∧ ∀ x H', J.yld i H x H' → body x H' Nx) := by
  refine ⟨fun i m H => m = n - i ∧ i ≤ n ∧ Pv i H, ⟨n, by simp, Nat.zero_le _, h0⟩, ?_⟩
  rintro i m H ⟨rfl, hi, p⟩
  have q := hG i H hi p
  by_cases hlt : i < n
  · exact .inr ⟨w.goes i H hlt q, Pv (i + 1), fun H' p' => ⟨n - (i + 1), by omega, rfl, hlt, p'⟩, fun x H' y => hs i x H H' hlt p (w.yields i H x H' hlt q y)⟩
  · have e : i = n := by omega
    subst e
    exact .inl ⟨w.stops H q, hd H p⟩
end Hs

set_option Elab.async false
set_option linter.all false
set_option maxRecDepth 100000
set_option maxHeartbeats 4000000
/-! sorted pairs, how many different ones, pairs among pairs. -/
namespace Hs
open PySem PySem.Spec PyProof.Rows L2
section
variable {prog : Program} {w : World} {A : Around} {E : Value → Shared → Prop} {s : Shared}
/-- sorted(t), t a tuple of tuples of d ints -/
theorem sortedT_tup {l : Addr} {vs : List Value} {d : Nat} {B : Int} {Q : Value → Shared → Prop} (hl : IsTup s.heap l vs.toArray) (h64 : vs.length < 64) (hd : 1 ≤ d) (x : TS.TupsOk s.heap d B vs)
    (h : ∀ out : Array Value, out.toList.Perm vs → out.toList.Pairwise (fun u v => TS.code B (TS.intsOf s.heap u) ≤ TS.code B (TS.intsOf s.heap v)) → Q (.ref (s.heap.objs.size + 1)) { s with heap := sortedAll s.heap vs out }) : wpAny (model prog w) A (call (.builtin "sorted") [.ref l]) Q E s := by
  refine Calls.call_function_entry kind_sorted plain_sorted entry_sorted (args_sorted1 _) ?_
  unfold Builtin.«sorted»
  refine wpAny_bind (m := checkCount "sorted" 1 1 _) (wpAny_pure (wpAny_bind (collect_tup hl (wpAny_bind (wpAny_newList ?_)) (by rw [sizeLine_eq]; omega))))
  have hz : (collH s.heap vs).objs.size = s.heap.objs.size + 1 := by rw [Heap.size_update, size_push']
  have made : ((collH s.heap vs).push (seqObj "list" vs.toArray 0)).get? (s.heap.objs.size + 1) = some (seqObj "list" vs.toArray 0) := by rw [← hz]; exact Heap.get?_push_size _ rfl
  have old : ∀ b o, s.heap.get? b = some o → o.cls = .type "tuple" → ((collH s.heap vs).push (seqObj "list" vs.toArray 0)).get? b = some o := fun b o q _ => by
    have lt : b < s.heap.objs.size := Heap.lt_size q
    have l1 : b ≠ s.heap.objs.size := Nat.ne_of_lt lt
    have l2 : b ≠ (collH s.heap vs).objs.size := by rw [hz]; exact Nat.ne_of_lt (Nat.lt_succ_of_lt lt)
    exact (Heap.get?_push_ne _ _ _ l2).trans ((Heap.get?_update_ne _ _ _ _ l1).trans ((Heap.get?_push_ne _ _ _ l1).trans q))
  show wpAny _ _ _ _ _ { s with heap := (collH s.heap vs).push (seqObj "list" vs.toArray 0) }
  rw [hz]
  refine wpAny_bind (wpAny_holding (wpAny_call_entry slot_list_sort ⟨_, made, rfl⟩ entry_list_sort (TS.sort_tups made h64 hd (x.keeps old) (fun v => TS.code B (TS.intsOf s.heap v)) (fun v hv ns t => ?_) fun out a1 a2 => ⟨_, rfl, wpAny_pure ⟨_, rfl, h out a1 a2⟩⟩) (args_list_sort _)))
  obtain ⟨ns0, t0, _⟩ := x v hv
  have e : ns = ns0 := t.ints.symm.trans (t0.keeps old).ints
  rw [e]
  show TS.code B (TS.intsOf s.heap v) = _
  rw [t0.ints]
end
section
variable {X : Cx}
/-- a op b op' c op'' d, as a test -/
def tChain3 (r r' r'' : R2) (ta tb tc td : TE) : TE := fun σ H Q => ta σ H fun x H1 => tb σ H1 fun y H2 => r x y H2 fun z H3 => ∃ k, z = .bl k ∧
  (if k = true then tc σ H3 fun u H4 => r' y u H4 fun z' H5 => ∃ k', z' = .bl k' ∧ (if k' = true then td σ H5 fun v H6 => r'' u v H6 Q else Q (.bl false) H5) else Q (.bl false) H3)
theorem pt_chain3 {o1 o2 o3 : CmpOp} {r r' r'' : R2} {a b c d : Expr} {ta tb tc td : TE} {pos : Pos} (h1 : OpR X (compareOp o1) r) (h2 : OpR X (compareOp o2) r') (h3 : OpR X (compareOp o3) r'') (ha : PE X a ta) (hb : PE X b tb) (hc : PE X c tc) (hd : PE X d td)
    (hm : lastMarks [o1, o2, o3] [b, c, d] = false := by with_unfolding_all rfl) : PT X (.Compare a [o1, o2, o3] [b, c, d] pos) (tTest (tChain3 r r' r'' ta tb tc td)) := by
  constructor
  intro pins s σ H Q I h
  refine isTrue_chain (thn (ha.run pins s σ H _ I h) fun va sa za => ?_) hm
  obtain ⟨x, Ha, Ia, ra, qa⟩ := za
  refine test_link (thn (hb.run pins sa σ Ha _ Ia qa) fun vb sb zb => ?_)
  obtain ⟨y, Hb, Ib, rb, qb⟩ := zb
  refine thn (h1 pins sb σ Hb x y va vb _ Ib ra rb qb) fun v1 s1 z1 => ?_
  obtain ⟨w1, H1, I1, r1, k, rfl, q1⟩ := z1
  cases r1
  refine wpAny_truthy_bool ?_
  cases k with
  | false =>
    obtain ⟨_, e, q⟩ := q1
    cases e
    exact ite_ff ⟨H1, I1, q⟩
  | true =>
    refine ite_tt (test_link (thn (hc.run pins s1 σ H1 _ I1 q1) fun vc sc zc => ?_))
    obtain ⟨u, Hc, Ic, rc, qc⟩ := zc
    refine thn (h2 pins sc σ Hc y u vb vc _ Ic rb rc qc) fun v2 s2 z2 => ?_
    obtain ⟨w2, H2, I2, r2, k', rfl, q2⟩ := z2
    cases r2
    refine wpAny_truthy_bool ?_
    cases k' with
    | false =>
      obtain ⟨_, e, q⟩ := q2
      cases e
      exact ite_ff ⟨H2, I2, q⟩
    | true =>
      refine ite_tt (test_last (thn (hd.run pins s2 σ H2 _ I2 q2) fun vd sd zd => ?_))
      obtain ⟨v, Hd, Id, rd, qd⟩ := zd
      refine thn (h3 pins sd σ Hd u v vc vd _ Id rc rd qd) fun v3 s3 z3 => ?_
      obtain ⟨w3, H3, I3, r3, k3, rfl, q3⟩ := z3
      cases r3
      exact wpAny_truthy_bool ⟨H3, I3, q3⟩
/-- as rSortU, of a tuple -/
def rSortV (K : PySem.W.Frag) (d : Nat) (B : Int) : List V → Hp → VK → Prop := fun vs H Q => ∃ (a : Addr) (xs : List V), vs = [V.ref a] ∧ SqA K H a xs ∧ xs.length < 64 ∧ (∀ x ∈ xs, ∃ ns, TupI K H x ns ∧ ns.length = d ∧ TS.Bd B ns) ∧
  ∀ (ys : List V) (p : Addr), ys.Perm xs → ys.Pairwise (fun x y => ∀ n m, TupI K H x n → TupI K H y m → TS.code B n ≤ TS.code B m) → H p = none → Q (.ref p) (upd H p (.lst ys))
theorem cr_sortV {d : Nat} {B : Int} (hd : 1 ≤ d) : CallR X (.builtin "sorted") (rSortV X.K d B) := by
  intro pins s σ H vs us Q I r h
  obtain ⟨a, xs, rfl, hs, h64, hx, q⟩ := h
  rcases hs with hs | hs
  · obtain ⟨its, rv, hl, hz⟩ := I.tuple hs
    rw [Vals.ref1 r]
    obtain ⟨f1, f2⟩ := bkV_refs rv fun x m => (hx x m).elim fun ns z => z.1.elim fun t y => ⟨t, y.1⟩
    refine sortedT_tup (d := d) (B := B) hl (by rw [← rv.length]; exact h64) hd (fun v hv => ?_) fun out g1 g2 => ?_
    · obtain ⟨t, rfl⟩ := f2 v hv
      have hm : V.ref t ∈ xs := by rw [f1]; exact List.mem_map.mpr ⟨_, hv, rfl⟩
      obtain ⟨ns, ⟨t', e, ht⟩, hn, hb⟩ := hx _ hm
      obtain rfl : t = t' := by injection e
      exact ⟨ns, tupI_raw I ht, hn, hb⟩
    · obtain ⟨ep, he⟩ := PyProof.Rows.sortedAll_at s.heap its out
      have hp : (out.toList.map bkV).Perm xs := f1 ▸ g1.map bkV
      refine ⟨.ref _, upd H (s.heap.objs.size + 1) (.lst (out.toList.map bkV)), I.laid (t' := s.toks) (fun _ _ => PyProof.Rows.sortedAll_old) (Nat.le_succ _) ⟨by rw [hp.length_eq]; exact hz, out.toList, ep, bkV_vals (fun u hu => f2 u (g1.mem_iff.mp hu)), he⟩, rfl, q _ _ hp ?_ (I.hok.fresh (Nat.le_succ _))⟩
      refine List.pairwise_map.mpr (g2.imp fun {u v} huv n m ⟨t, et, ht⟩ ⟨t', et', ht'⟩ => ?_)
      have i1 : TS.intsOf s.heap u = n := by rw [bkV_ref et]; exact (tupI_raw I ht).ints
      have i2 : TS.intsOf s.heap v = m := by rw [bkV_ref et']; exact (tupI_raw I ht').ints
      rw [← i1, ← i2]; exact huv
  · exact cr_sortT hd pins s σ H _ us Q I r ⟨a, xs, rfl, hs, h64, hx, q⟩
/-- how many different ones -/
def diffN (ns : List Int) : Nat := (PyProof.Rows.firstMet (fun i => ns.getD i 0) ns.length).length
def tLenSet (K : PySem.W.Frag) (ta : TE) : TE := fun σ H Q => ta σ H fun x H1 => ∃ (l : Addr) (ns : List Int), x = .ref l ∧ SqL K H1 l (ns.map V.int) ∧ ns.length ≤ 4000 ∧ Q (.int (diffN ns : Nat)) H1
theorem firstMet_le (f : Nat → Int) : ∀ i, (PyProof.Rows.firstMet f i).length ≤ i
  | 0 => Nat.le_refl _
  | i + 1 => by
    have ih := firstMet_le f i
    rw [PyProof.Rows.firstMet_succ]
    show (if (PyProof.Rows.firstMet f i).any (· == f i) then PyProof.Rows.firstMet f i else PyProof.Rows.firstMet f i ++ [f i]).length ≤ i + 1
    split
    · omega
    · rw [List.length_append]; show _ + 1 ≤ _; omega
theorem pe_lenSet {a : Expr} {ta : TE} {p p2 q pos : Pos} (hg : Gl X "len") (hm : X.mg "len" = none) (hg2 : Gl X "set") (hm2 : X.mg "set" = none) (ha : PE X a ta) (hc : X.calm = true := by rfl)
    (na : starEach [a] X.env = (false, eval a X.env) :: starEach [] X.env := by rfl) : PE X (.Call (.Name "len" p) [.Call (.Name "set" p2) [a] [] q] [] pos) (tLenSet X.K ta) := by
  refine ⟨fun pins s σ H Q I h => Call_ (ld_blt I hg hm boot_len (PyProof.Rows.callWith_builtin1 (PyProof.Rows.args_cons (Call_ (ld_blt I hg2 hm2 boot_set ?_)) rfl) rfl rfl))⟩
  refine PyProof.Rows.callWith_type1 (PyProof.Rows.args_cons (thn (ha.run pins s σ H _ I h) fun v s1 z => PyProof.Rows.args_nil ?_) na) na rfl
  obtain ⟨x, H1, I1, r1, l, ns, rfl, hq, hl, q1⟩ := z
  obtain rfl : v = Value.ref l := r1
  obtain ⟨its, r, pl, hz⟩ := I1.list hq
  have en : its.toArray.size = ns.length := by rw [List.size_toArray, ← r.length, List.length_map]
  refine call_set_list (I1.ok.hd hc) pl.isList (by simpa using RZ.intsAre_vals r) (by rw [en]; unfold scanBound; omega) fun h' tk hS hk => PyProof.Rows.args_nil ?_
  rw [en] at hS
  obtain ⟨o, es, ep, t, ho, hex, hdt, _, _, _, hf, hn⟩ := hS
  have J : Inv X pins σ H1 { s1 with heap := h', toks := tk } := I1.kept fun b o e => hk b o (Heap.lt_size e) e
  have le := firstMet_le (fun i => ns.getD i 0) ns.length
  exact call_len_set ho hex hdt hf (by rw [hn]; omega) ⟨.int (diffN ns : Nat), H1, J.tok _, ⟨_, by rw [hn]; rfl⟩, q1⟩
end
end Hs

set_option Elab.async false
set_option linter.all false
/-! Turning: everybody goes on by so many seats. -/
namespace Hm
/-- the seat that is so many seats on -/
def psN (n : Nat) (far : Int) (k : Nat) : Nat := (((k : Int) + far) % (n : Int)).toNat
theorem psN_cast {n : Nat} (h : 0 < n) (far : Int) (k : Nat) : ((psN n far k : Nat) : Int) = ((k : Int) + far) % (n : Int) :=
  Int.toNat_of_nonneg (Int.emod_nonneg _ (by omega))
theorem psN_lt {n : Nat} (h : 0 < n) (far : Int) (k : Nat) : psN n far k < n := by
  have a := psN_cast h far k
  have b := Int.emod_lt_of_pos ((k : Int) + far) (show (0 : Int) < n by omega)
  omega
theorem psN_comp {n : Nat} (h : 0 < n) (a b : Int) (k : Nat) : psN n b (psN n a k) = psN n (a + b) k := by
  have e : ((psN n b (psN n a k) : Nat) : Int) = ((psN n (a + b) k : Nat) : Int) := by
    rw [psN_cast h, psN_cast h, psN_cast h, Int.emod_add_emod, Int.add_assoc]
  omega
theorem psN_zero {n k : Nat} (h : k < n) : psN n 0 k = k := by
  have a := psN_cast (show 0 < n by omega) 0 k
  rw [Int.add_zero, Int.emod_eq_of_lt (by omega) (by omega)] at a
  omega
theorem psN_mul {n k : Nat} (h : k < n) (q : Int) : psN n (n * q) k = k := by
  have a := psN_cast (show 0 < n by omega) (n * q) k
  rw [Int.add_mul_emod_self_left, Int.emod_eq_of_lt (by omega) (by omega)] at a
  omega
theorem psN_back {n k : Nat} (h : k < n) (a : Int) : psN n a (psN n (-a) k) = k := by
  rw [psN_comp (by omega), Int.add_left_neg, psN_zero h]
theorem psN_back' {n k : Nat} (h : k < n) (a : Int) : psN n (-a) (psN n a k) = k := by
  rw [psN_comp (by omega), Int.add_right_neg, psN_zero h]
theorem psN_inj {n k l : Nat} (hk : k < n) (hl : l < n) {a : Int} (e : psN n a k = psN n a l) : k = l := by
  rw [← psN_back' hk a, e, psN_back' hl a]
/-- turned by so many seats -/
def mvN (n : Nat) (far : Int) (m : Nat → Nat) : Nat → Nat := fun i => psN n far (m (psN n (-far) i))
theorem mv_at {n k : Nat} (h : k < n) (far : Int) (m : Nat → Nat) : mvN n far m (psN n far k) = psN n far (m k) := by
  unfold mvN; rw [psN_back' h]
theorem mv_lt {n : Nat} {far : Int} {m : Nat → Nat} {i : Nat} (h : i < n) : mvN n far m i < n := psN_lt (by omega) _ _
theorem mv_comp {n : Nat} {m : Nat → Nat} {i : Nat} (a b : Int) (h : i < n) : mvN n b (mvN n a m) i = mvN n (a + b) m i := by
  unfold mvN
  rw [psN_comp (by omega), psN_comp (by omega), Int.neg_add, Int.add_comm (-b) (-a)]
theorem mv_zero {n : Nat} {m : Nat → Nat} {i : Nat} (hm : ∀ k, k < n → m k < n) (h : i < n) : mvN n 0 m i = m i := by
  unfold mvN
  rw [Int.neg_zero, psN_zero h, psN_zero (hm i h)]
theorem mv_congr {n : Nat} {far : Int} {m m' : Nat → Nat} {i : Nat} (h : i < n) (e : ∀ k, k < n → m k = m' k) : mvN n far m i = mvN n far m' i := by
  unfold mvN
  rw [e _ (psN_lt (by omega) _ _)]
/-- turned by so many seats it is the same -/
def Al (n : Nat) (m : Nat → Nat) (far : Int) : Prop := ∀ i, i < n → mvN n far m i = m i
instance {n : Nat} {m : Nat → Nat} {far : Int} : Decidable (Al n m far) := Nat.decidableBallLT n (fun i _ => mvN n far m i = m i)
theorem Al.add {n : Nat} {m : Nat → Nat} {a b : Int} (x : Al n m a) (y : Al n m b) : Al n m (a + b) := fun i h => by
  rw [← mv_comp a b h, mv_congr h x, y i h]
theorem Al.neg {n : Nat} {m : Nat → Nat} {a : Int} (hm : ∀ k, k < n → m k < n) (x : Al n m a) : Al n m (-a) := fun i h => by
  have e : mvN n (-a) (mvN n a m) i = mvN n (-a) m i := mv_congr h x
  rw [mv_comp a (-a) h, Int.add_right_neg, mv_zero hm h] at e
  exact e.symm
theorem Al.mul {n : Nat} {m : Nat → Nat} {a : Int} (hm : ∀ k, k < n → m k < n) (x : Al n m a) : ∀ q : Nat, Al n m (a * q)
  | 0 => fun i h => by rw [show a * ((0 : Nat) : Int) = 0 by simp, mv_zero hm h]
  | q + 1 => by
    have := (Al.mul hm x q).add x
    rwa [show a * ((q + 1 : Nat) : Int) = a * (q : Int) + a by rw [Int.natCast_add]; simp [Int.mul_add]]
theorem al_size {n : Nat} {m : Nat → Nat} (hm : ∀ k, k < n → m k < n) : Al n m n := fun i h => by
  unfold mvN
  rw [show (-(n : Int)) = n * (-1) by omega, psN_mul h, show (n : Int) = n * 1 by omega, psN_mul (hm i h)]
/-- the least number of seats from 1 -/
structure Per (n : Nat) (m : Nat → Nat) (s : Nat) : Prop where
  pos : 1 ≤ s
  al : Al n m s
  least : ∀ t : Nat, 1 ≤ t → t < s → ¬ Al n m t
theorem Per.dvd {n : Nat} {m : Nat → Nat} {s t : Nat} (hm : ∀ k, k < n → m k < n) (p : Per n m s) (x : Al n m t) : t % s = 0 := by
  have a : Al n m ((t % s : Nat) : Int) := by
    have := x.add ((p.al.mul hm (t / s)).neg hm)
    have e : (t : Int) + -((s : Int) * ((t / s : Nat) : Int)) = ((t % s : Nat) : Int) := by
      have h := Nat.div_add_mod t s
      have h2 : ((s * (t / s) + t % s : Nat) : Int) = (t : Int) := by rw [h]
      rw [Int.natCast_add, Int.natCast_mul] at h2
      omega
    rwa [e] at this
  by_cases c : t % s = 0
  · exact c
  · exact absurd a (p.least _ (by omega) (Nat.mod_lt _ p.pos))
end Hm

set_option Elab.async false
set_option linter.all false
set_option maxRecDepth 100000
set_option maxHeartbeats 4000000
namespace Hs
open PySem PySem.Spec PyProof.Rows L2 PySem.W
/-- range(n), from 0 on -/
theorem walk_range0 {n : Nat} : Walk (Itr 0 n) n (fun _ => True) (YFn fun i => .int (i : Nat)) :=
  ⟨fun _ _ hi _ => hi, fun _ _ => Nat.le_refl _, fun i _ _ _ _ _ y => ⟨y.1, by have := y.2; rw [Int.zero_add] at this; exact this⟩⟩
theorem walk_revT {K : PySem.W.Frag} {a : Addr} {xs : List V} : Walk (RT.ItvT K a xs.length) xs.length (fun H => SqT K H a xs) (fun i H x H' => H' = H ∧ xs[xs.length - 1 - i]? = some x) :=
  ⟨fun i _ hi q => ⟨hi, xs, xs[xs.length - 1 - i]'(by omega), q, by simp [show xs.length - 1 - i < xs.length by omega]⟩, fun _ _ => Nat.le_refl _, fun _ _ _ _ _ q y => ⟨y.1, y.2 xs q⟩⟩
/-! ### min of a tuple of ints -/
section
variable {X : Cx}
theorem fold_min : ∀ (xs : List Int) (x : Int), (xs.foldl (fun a y => if decide (y < a) = true then y else a) x) ∈ x :: xs ∧ ∀ y ∈ x :: xs, (xs.foldl (fun a y => if decide (y < a) = true then y else a) x) ≤ y
  | [], x => ⟨List.mem_cons_self, fun y hy => by simp at hy; rw [hy]; exact Int.le_refl _⟩
  | z :: xs, x => by
    obtain ⟨a, b⟩ := fold_min xs (if decide (z < x) = true then z else x)
    refine ⟨?_, fun y hy => ?_⟩
    · show (xs.foldl _ (if decide (z < x) = true then z else x)) ∈ _
      rcases List.mem_cons.mp a with c | c
      · rw [c]; split
        · exact List.mem_cons_of_mem _ List.mem_cons_self
        · exact List.mem_cons_self
      · exact List.mem_cons_of_mem _ (List.mem_cons_of_mem _ c)
    · show (xs.foldl _ (if decide (z < x) = true then z else x)) ≤ y
      have h0 := b _ List.mem_cons_self
      rcases List.mem_cons.mp hy with c | c
      · rw [c]
        by_cases q : z < x
        · rw [if_pos (decide_eq_true q)] at h0 ⊢; omega
        · rw [if_neg (by simpa using q)] at h0 ⊢; exact h0
      · rcases List.mem_cons.mp c with c | c
        · rw [c]
          by_cases q : z < x
          · rw [if_pos (decide_eq_true q)] at h0 ⊢; exact h0
          · rw [if_neg (by simpa using q)] at h0 ⊢; omega
        · exact b y (List.mem_cons_of_mem _ c)
def rMinT (K : PySem.W.Frag) : List V → Hp → VK → Prop := fun vs H Q => ∃ (a : Addr) (ns : List Int), vs = [V.ref a] ∧ SqT K H a (ns.map V.int) ∧ 0 < ns.length ∧ ∀ m, m ∈ ns → (∀ y, y ∈ ns → m ≤ y) → Q (.int m) H
theorem cr_minT (hc : X.calm = true) (hu : X.A.units + 64 < cLine) : CallR X (.builtin "min") (rMinT X.K) := by
  intro pins s σ H vs us Q I r h
  obtain ⟨a, ns, rfl, hs, hl0, q⟩ := h
  obtain ⟨its, rv, hl, _⟩ := I.tuple hs
  rw [Vals.ref1 r]
  cases ns with
  | nil => exact absurd hl0 (Nat.lt_irrefl _)
  | cons x xs =>
    have hi : IntsAre its (x :: xs) := rv.ints (ns := x :: xs)
    refine min_tuple_datum (x := x) (xs := xs) (I.ok.hd hc) hl (by simpa using HoldAll.of_ints hi) (by show X.A.units + 1 + 0 < cLine; omega) fun k v h' tk hv hh hk => ?_
    obtain ⟨t, rfl⟩ := holds_is hh
    obtain ⟨m1, m2⟩ := fold_min xs x
    exact ⟨.int _, H, I.kept (t' := tk) hk, ⟨t, rfl⟩, q _ m1 m2⟩
end
end Hs

set_option linter.all false
/-! All arrangements of so many people, as the laws make them. -/
namespace Hm
def evF : Nat → Nat → List (List Nat)
  | 0, _ => [[]]
  | d + 1, s => if s = 0 then [[]] else (List.range (s / 2)).flatMap fun i => (evF d (2 * i)).flatMap fun a => (evF d (s - 2 * i - 2)).map fun t => (2 * i + 1) :: (a.map (· + 1) ++ [0]) ++ t.map (· + (2 * i + 1) + 1)
def evN (s : Nat) : List (List Nat) := evF 6 s
/-- what one mate, and one inner part, gives -/
def evA (s i : Nat) (a : List Nat) : List (List Nat) := (evN (s - 2 * i - 2)).map fun t => (2 * i + 1) :: (a.map (· + 1) ++ [0]) ++ t.map (· + (2 * i + 1) + 1)
def evU (s i : Nat) : List (List Nat) := (List.range i).flatMap fun i => (evN (2 * i)).flatMap (evA s i)
def cdN : List Nat → Nat
  | [] => 0
  | d :: r => d * 24 ^ r.length + cdN r
def ascB : List Nat → Bool
  | a :: b :: l => decide (a < b) && ascB (b :: l)
  | _ => true
def evOk (s : Nat) : Bool := decide (evN s = evU s (s / 2)) && (evN s).all (fun l => decide (l.length = s) && l.all fun x => decide (x < 24)) && ascB ((evN s).map cdN) && decide ((evN s).length < 64) && decide (0 < (evN s).length)
theorem ev_check : (List.range 6).all (fun q => q == 0 || evOk (2 * q)) = true := by decide +kernel
theorem ev_zero : evN 0 = [[]] := rfl
theorem asc_pw : ∀ {l : List Nat}, ascB l = true → l.Pairwise (· < ·)
  | [], _ => .nil
  | [a], _ => List.pairwise_singleton _ _
  | a :: b :: l, h => by
    have h : (decide (a < b) && ascB (b :: l)) = true := h
    rw [Bool.and_eq_true] at h
    have ih := asc_pw h.2
    have ab : a < b := of_decide_eq_true h.1
    rw [List.pairwise_cons]
    refine ⟨fun x hx => ?_, ih⟩
    rcases List.mem_cons.mp hx with z | z
    · rw [z]; exact ab
    · exact Nat.lt_trans ab ((List.pairwise_cons.mp ih).1 x z)
theorem ev_ok {q : Nat} (h1 : 1 ≤ q) (h : q ≤ 5) : evN (2 * q) = evU (2 * q) q ∧ (∀ l ∈ evN (2 * q), l.length = 2 * q ∧ ∀ x ∈ l, x < 24) ∧ ((evN (2 * q)).map cdN).Pairwise (· < ·) ∧ (evN (2 * q)).length < 64 ∧ 0 < (evN (2 * q)).length := by
  have := List.all_eq_true.mp ev_check q (List.mem_range.mpr (by omega))
  rw [Bool.or_eq_true] at this
  rcases this with z | z
  · have : q = 0 := by simpa using z
    omega
  · unfold evOk at z
    simp only [Bool.and_eq_true, decide_eq_true_eq, List.all_eq_true] at z
    obtain ⟨⟨⟨⟨z1, z2⟩, z3⟩, z4⟩, z5⟩ := z
    rw [show 2 * q / 2 = q by omega] at z1
    exact ⟨z1, z2, asc_pw z3, z4, z5⟩
theorem evU_succ (s i : Nat) : evU s (i + 1) = evU s i ++ (evN (2 * i)).flatMap (evA s i) := by
  unfold evU
  rw [List.range_succ, List.flatMap_append]; simp
/-- bounds while the list is being made -/
theorem evA_len {q i : Nat} (h : q ≤ 5) (hi : i < q) (a : List Nat) : (evA (2 * q) i a).length < 64 := by
  unfold evA
  rw [List.length_map]
  by_cases c : q - i - 1 = 0
  · rw [show 2 * q - 2 * i - 2 = 0 by omega]; decide
  · have := (ev_ok (q := q - i - 1) (by omega) (by omega)).2.2.2.1
    rwa [show 2 * (q - i - 1) = 2 * q - 2 * i - 2 by omega] at this
end Hm

set_option Elab.async false
set_option linter.all false
set_option maxRecDepth 100000
set_option maxHeartbeats 4000000
namespace K34
open PySem PySem.Spec PyProof.Rows L2 Hs Hm
def topS (i : Nat) : Stmt := PySem.Challenge.pw_handshakes_k34_how_many_are_alike.main.body.getD i (.Pass ⟨0, 0, 0, 0⟩)
/-- the first def of a class -/
def inC : Stmt → Stmt
  | .ClassDef _ _ _ (st :: _) .. => st
  | st => st
abbrev sCommonDivisor : Stmt := topS 1
abbrev sChoices : Stmt := topS 2
abbrev sCatalan : Stmt := topS 4
abbrev sTurned : Stmt := topS 6
abbrev sPeriod : Stmt := topS 7
abbrev sAlikeMany : Stmt := topS 8
abbrev sCellAt : Stmt := topS 10
abbrev sBox : Stmt := topS 11
abbrev sTake : Stmt := topS 12
abbrev sOf : Stmt := topS 13
abbrev sSame : Stmt := topS 14
abbrev sEvery : Stmt := topS 15
abbrev sMoved : Stmt := topS 16
abbrev sFewRight : Stmt := topS 17
abbrev sKnownRight : Stmt := topS 18
abbrev sRight : Stmt := topS 19
abbrev sLaw : Stmt := topS 20
section
variable {P : Program} {w : World} {K : PySem.W.Frag} {mg : Str → Option Value} {base : Heap} {f : Addr} {fd : FuncData}
def spNum (K : PySem.W.Frag) : Sp := fun vs H Q _ => ∃ v d, vs = [v] ∧ Dp K H v d ∧ Q (.bl (isN d)) H
theorem isN_and (d : PyData) : (isI d && !isB d) = isN d := by cases d <;> rfl
def isP (n : Int) : PyData → Bool | .int i => decide (0 ≤ i) && decide (i < n) | _ => false
def spPerson (K : PySem.W.Frag) : Sp := fun vs H Q _ => ∃ v d n, vs = [v, .int n] ∧ Dp K H v d ∧ Q (.bl (isP n d)) H
def allIx (p : Nat → PyData → Bool) (ds : List PyData) : Bool := (List.range ds.length).all fun i => p i (ds.getD i .none)
theorem allIx_true {p : Nat → PyData → Bool} {ds : List PyData} (h : ∀ i, i < ds.length → p i (ds.getD i .none) = true) : allIx p ds = true := by
  unfold allIx
  rw [List.all_eq_true]
  intro i hi
  exact h i (List.mem_range.mp hi)
theorem allIx_false {p : Nat → PyData → Bool} {ds : List PyData} {i : Nat} (hi : i < ds.length) (h : p i (ds.getD i .none) = false) : allIx p ds = false := by
  unfold allIx
  rw [List.all_eq_false]
  exact ⟨i, List.mem_range.mpr hi, by rw [h]; exact Bool.false_ne_true⟩
theorem allIx_iff {p : Nat → PyData → Bool} {ds : List PyData} : allIx p ds = true ↔ ∀ i, i < ds.length → p i (ds.getD i .none) = true := by
  refine ⟨fun h i hi => ?_, allIx_true⟩
  cases e : p i (ds.getD i .none) with
  | true => rfl
  | false => rw [allIx_false hi e] at h; cases h
def okA (n : Nat) (i : Nat) : PyData → Bool
  | .int p => (decide (0 ≤ p) && decide (p < n)) && !decide (p = (i : Int))
  | _ => false
def okB (ds : List PyData) (i : Nat) : PyData → Bool
  | .int p => PyData.eqv (ds.getD p.toNat .none) (.int i)
  | _ => false
def pairedB (ds : List PyData) : Bool := allIx (fun i d => okA ds.length i d && okB ds i d) ds
theorem shaped_int (i : Int) : SeqAt.shaped (.int i) = true := rfl
theorem fine_get {ds : List PyData} (h : ∀ d ∈ ds, SeqAt.shaped d = true) (i : Nat) : SeqAt.shaped (ds.getD i .none) = true := by
  by_cases hi : i < ds.length
  · rw [List.getD_eq_getElem?_getD, List.getElem?_eq_getElem hi]
    exact h _ (List.getElem_mem hi)
  · rw [List.getD_eq_getElem?_getD, List.getElem?_eq_none (by omega)]
    rfl
def spAllPaired (K : PySem.W.Frag) : Sp := fun vs H Q _ => ∃ a xs ds, vs = [.ref a] ∧ SqT K H a xs ∧ DpAll K H xs ds ∧ (∀ d ∈ ds, SeqAt.shaped d = true) ∧ ∀ G, Same H G → Q (.bl (pairedB ds)) G
theorem sizeBig {n : Nat} (h : n ≤ 1000) : n ≤ sizeLine := Nat.le_of_lt (small1000 h)
def mOf (ds : List PyData) (i : Nat) : Nat := match ds.getD i .none with | .int p => p.toNat | _ => 0
theorem paired_prd {ds : List PyData} (h : pairedB ds = true) : (∀ i, i < ds.length → ds.getD i .none = .int (mOf ds i)) ∧ Prd ds.length (mOf ds) := by
  have h1 := allIx_iff.mp h
  have hint : ∀ i, i < ds.length → ds.getD i .none = .int (mOf ds i) ∧ mOf ds i < ds.length ∧ mOf ds i ≠ i ∧ PyData.eqv (ds.getD (mOf ds i) .none) (.int i) = true := by
    intro i hi
    have q := h1 i hi
    unfold mOf
    generalize e : ds.getD i .none = d at q
    cases d with
    | int p =>
      have q' : ((decide (0 ≤ p) && decide (p < ((ds.length : Nat) : Int))) && !decide (p = (i : Int)) && PyData.eqv (ds.getD p.toNat .none) (.int i)) = true := q
      simp only [Bool.and_eq_true, decide_eq_true_eq, Bool.not_eq_true', decide_eq_false_iff_not] at q'
      obtain ⟨⟨⟨a1, a2⟩, a3⟩, a4⟩ := q'
      refine ⟨?_, ?_, ?_, a4⟩
      · show PyData.int p = PyData.int ((p.toNat : Nat) : Int)
        rw [Int.toNat_of_nonneg a1]
      · show p.toNat < ds.length
        omega
      · show p.toNat ≠ i
        omega
    | none => cases q
    | bool b => cases q
    | str s => cases q
    | list xs => cases q
    | tuple xs => cases q
    | dict kvs => cases q
  refine ⟨fun i hi => (hint i hi).1, fun i hi => ?_⟩
  obtain ⟨_, b1, b2, b3⟩ := hint i hi
  refine ⟨b1, b2, ?_⟩
  rw [(hint _ b1).1] at b3
  have : (((mOf ds (mOf ds i)) : Nat) : Int) = (i : Int) := by
    have z : ((((mOf ds (mOf ds i)) : Nat) : Int) == (i : Int)) = true := b3
    exact eq_of_beq z
  omega
def rowV (n : Nat) (m : Nat → Nat) : List V := (List.range n).map fun i => V.int (m i)
theorem rowV_len (n : Nat) (m : Nat → Nat) : (rowV n m).length = n := by unfold rowV; rw [List.length_map, List.length_range]
theorem rowV_get {n : Nat} {m : Nat → Nat} {i : Nat} {x : V} (h : (rowV n m)[i]? = some x) : i < n ∧ x = .int (m i) := by
  unfold rowV at h
  rw [List.getElem?_map] at h
  by_cases hi : i < n
  · rw [List.getElem?_range hi] at h
    exact ⟨hi, (Option.some.inj h).symm⟩
  · rw [List.getElem?_eq_none (by rw [List.length_range]; omega)] at h; cases h
def spSomeCross (K : PySem.W.Frag) : Sp := fun vs H Q _ => ∃ a n m, vs = [.ref a] ∧ SqA K H a (rowV n m) ∧ Ivo n m ∧ n ≤ 1000 ∧ ∀ b G, Same H G → (b = true ↔ Crs n m) → Q (.bl b) G
abbrev nSomeCross : List Str := ["partners", "begun", "person", "partner"]
theorem last_some {l : List V} {z : V} : (l ++ [z])[(l ++ [z]).length - 1]? = some z := by simp
def Arr (d : PyData) : Prop := ∃ ds, d = .tuple ds ∧ pairedB ds = true ∧ ¬ Crs ds.length (mOf ds)
def spIsArr (K : PySem.W.Frag) : Sp := fun vs H Q _ => ∃ v d, vs = [v] ∧ Dp K H v d ∧ (∀ ds, d = .tuple ds → (∀ e ∈ ds, SeqAt.shaped e = true) ∧ ds.length ≤ 1000) ∧ ∀ b G, Same H G → (b = true ↔ Arr d) → Q (.bl b) G
theorem dpAll_row {K : PySem.W.Frag} {H : Hp} {xs : List V} {ds : List PyData} (hD : DpAll K H xs ds) {m : Nat → Nat} (h : ∀ i, i < ds.length → ds.getD i .none = .int (m i)) : xs = rowV ds.length m := by
  have hl := dpAll_len hD
  apply List.ext_getElem?
  intro i
  by_cases hi : i < xs.length
  · have hx := List.getElem?_eq_getElem hi
    have hd := dpAll_get hD hx
    rw [h i (by omega)] at hd
    rw [hx]
    unfold rowV
    rw [List.getElem?_map, List.getElem?_range (by omega)]
    cases e : xs[i] with
    | int j => rw [e] at hd; cases hd; rfl
    | non => rw [e] at hd; cases hd
    | bl b => rw [e] at hd; cases hd
    | str z => rw [e] at hd; cases hd
    | byt z => rw [e] at hd; cases hd
    | flt z => rw [e] at hd; cases hd
    | ref z => rw [e] at hd; cases hd
    | ty z => rw [e] at hd; cases hd
  · rw [List.getElem?_eq_none (by omega), List.getElem?_eq_none (by rw [rowV_len]; omega)]
def pairD (p : Nat × Nat) : PyData := .tuple [.int (p.1 : Nat), .int (p.2 : Nat)]
def spArms (K : PySem.W.Frag) : Sp := fun vs H Q _ => ∃ a n m, vs = [.ref a] ∧ SqA K H a (rowV n m) ∧ n ≤ 1000 ∧ ∀ p ys G, Same H G → H p = none → G p = some (.lst ys) → DpAll K G ys ((armsN m n).map pairD) → Q (.ref p) G
def armsI (K : PySem.W.Frag) (H : Hp) (D : Addr) (m : Nat → Nat) (i : Nat) (G : Hp) : Prop := Same H G ∧ ∃ acc, G D = some (.lst acc) ∧ DpAll K (hid G D) acc ((armsN m i).map pairD)
theorem arms0 {H : Hp} {D : Addr} {m : Nat → Nat} (h : H D = none) : armsI K H D m 0 (upd H D (.lst [])) := ⟨same_new h, [], upd_same, .nil⟩
theorem armsE {H G : Hp} {D : Addr} {m : Nat → Nat} {n : Nat} {Q : VK} (h : armsI K H D m n G) (nD : H D = none) (q : ∀ p ys G, Same H G → H p = none → G p = some (.lst ys) → DpAll K G ys ((armsN m n).map pairD) → Q (.ref p) G) : Q (.ref D) G := by
  obtain ⟨sm, acc, e, hA⟩ := h
  exact q D acc G sm nD e (same_dps (hid_same G D) hA)
theorem armsT {H G : Hp} {D T : Addr} {m : Nat → Nat} {i n : Nat} (nD : H D = none) (h : armsI K H D m i G) (nT : G T = none) (hi : i < n) (hn : n ≤ 1000) : armsI K H D m i (upd G T (.tup [.int (i : Nat), .int (m i : Nat)])) ∧
    (¬ i < m i → armsI K H D m (i + 1) (upd G T (.tup [.int (i : Nat), .int (m i : Nat)]))) ∧
    ∀ q, (upd G T (.tup [.int (i : Nat), .int (m i : Nat)])) q = none → i < m i → ∃ acc, (upd (upd G T (.tup [.int (i : Nat), .int (m i : Nat)])) q (.tup [.int (i : Nat), .int (m i : Nat)])) D = some (.lst acc) ∧ acc.length < sizeLine ∧
      armsI K H D m (i + 1) (upd (upd (upd G T (.tup [.int (i : Nat), .int (m i : Nat)])) q (.tup [.int (i : Nat), .int (m i : Nat)])) D (.lst (acc ++ [.ref q]))) := by
  obtain ⟨sm, acc, e, hA⟩ := h
  have nTD : D ≠ T := ne_of_none e nT
  have e2 : (upd G T (.tup [.int (i : Nat), .int (m i : Nat)])) D = some (.lst acc) := by rw [upd_ne nTD]; exact e
  have s2 : Same G (upd G T (.tup [.int (i : Nat), .int (m i : Nat)])) := same_new nT
  have hA2 := same_dps (hid_mono (D := D) s2) hA
  refine ⟨⟨sm.trans s2, acc, e2, hA2⟩, fun c => ⟨sm.trans s2, acc, e2, by rw [armsN_no c]; exact hA2⟩, fun q nq c => ?_⟩
  have nqD : D ≠ q := ne_of_none e2 nq
  have s3 : Same (upd G T (.tup [.int (i : Nat), .int (m i : Nat)])) (upd (upd G T (.tup [.int (i : Nat), .int (m i : Nat)])) q (.tup [.int (i : Nat), .int (m i : Nat)])) := same_new nq
  refine ⟨acc, by rw [upd_ne nqD]; exact e2, ?_, same_grow nD ((sm.trans s2).trans s3), _, upd_same, ?_⟩
  · have := dpAll_len hA
    rw [List.length_map] at this
    have l := armsN_len m i
    exact small1000 (by omega)
  · rw [hid_upd, armsN_yes c, List.map_append]
    refine dpAll_snoc (same_dps (hid_mono (D := D) s3) hA2) ?_
    refine .tup (xs := [.int (i : Nat), .int (m i : Nat)]) (SqT.of ?_) (.cons (.int _) (.cons (.int _) .nil))
    rw [hid_ne nqD.symm, upd_same]
theorem sorted2 {i j : Int} {ms : List Int} (hp : ms.Perm [i, j]) (hs : ms.Pairwise (· ≤ ·)) : ms = [if j < i then j else i, if i < j then j else i] := by
  have hl := hp.length_eq
  match ms, hl with
  | [x, y], _ =>
    have hx : x ∈ [i, j] := hp.subset (by simp)
    have hy : y ∈ [i, j] := hp.subset (by simp)
    have hi : i ∈ [x, y] := hp.symm.subset (by simp)
    have hj : j ∈ [x, y] := hp.symm.subset (by simp)
    have le : x ≤ y := by
      have := List.pairwise_cons.mp hs
      exact this.1 y (by simp)
    simp only [List.mem_cons, List.mem_nil_iff, or_false] at hx hy hi hj
    have e1 : x = if j < i then j else i := by split <;> omega
    have e2 : y = if i < j then j else i := by split <;> omega
    rw [e1, e2]
def spCross (K : PySem.W.Frag) : Sp := fun vs H Q _ => ∃ a b i j p q, vs = [.ref a, .ref b] ∧ SqA K H a [.int i, .int j] ∧ SqA K H b [.int p, .int q] ∧ ∀ G, Same H G → Q (.bl (crI i j p q)) G
theorem cross_end {H : Hp} {Q : VK} {lo hi p q : Int} {b : Bool} (hb : b = ((decide (lo < p) && decide (p < hi)) != (decide (lo < q) && decide (q < hi)))) (h : Q (.bl b) H) : Q (.bl (!decide ((decide (lo < p) && decide (p < hi)) = (decide (lo < q) && decide (q < hi))))) H := by
  rw [hb] at h
  have e : (!decide ((decide (lo < p) && decide (p < hi)) = (decide (lo < q) && decide (q < hi)))) = ((decide (lo < p) && decide (p < hi)) != (decide (lo < q) && decide (q < hi))) := by
    cases (decide (lo < p) && decide (p < hi)) <;> cases (decide (lo < q) && decide (q < hi)) <;> rfl
  rw [e]; exact h
def spCrossed (K : PySem.W.Frag) : Sp := fun vs H Q _ => ∃ a b i j p q, vs = [.ref a, .ref b] ∧ SqT K H a [.int i, .int j] ∧ SqT K H b [.int p, .int q] ∧ Q (.bl (crI i j p q)) H
theorem cutV_take (xs : List V) (i : Nat) : cutV xs none (some (i : Int)) = xs.take i := by
  unfold cutV
  rw [HT.sIx_nat, HT.sIx_none, List.drop_zero, Nat.sub_zero]
  by_cases h : i ≤ xs.length
  · rw [Nat.min_eq_left h]
  · rw [Nat.min_eq_right (by omega), List.take_length, List.take_of_length_le (by omega)]
theorem dp_pair {K : PySem.W.Frag} {H : Hp} {v : V} {p : Nat × Nat} (h : Dp K H v (pairD p)) : ∃ t, v = .ref t ∧ SqT K H t [.int (p.1 : Nat), .int (p.2 : Nat)] := by
  unfold pairD at h
  cases h with
  | tup q r =>
    cases r with
    | cons a r =>
      cases r with
      | cons b r =>
        cases r
        cases a
        cases b
        exact ⟨_, rfl, q⟩
theorem getD_pairs {L : List (Nat × Nat)} {i : Nat} (h : i < L.length) : (L.map pairD).getD i .none = pairD (L.getD i (0, 0)) := by
  rw [List.getD_eq_getElem?_getD, List.getElem?_map, List.getD_eq_getElem?_getD, List.getElem?_eq_getElem h]; rfl
def spClear (K : PySem.W.Frag) : Sp := fun vs H Q _ => ∃ a xs L, vs = [.ref a] ∧ SqL K H a xs ∧ DpAll K H xs (L.map pairD) ∧ L.length ≤ 1000 ∧ ∀ b G, Same H G → (b = true ↔ NoX L) → Q (.bl b) G
theorem pairedB_and (ds : List PyData) : pairedB ds = (allIx (okA ds.length) ds && allIx (okB ds) ds) := by
  rw [Bool.eq_iff_iff, Bool.and_eq_true, pairedB, allIx_iff, allIx_iff, allIx_iff]
  constructor
  · intro h
    exact ⟨fun i hi => (Bool.and_eq_true_iff.mp (h i hi)).1, fun i hi => (Bool.and_eq_true_iff.mp (h i hi)).2⟩
  · rintro ⟨h1, h2⟩ i hi
    rw [h1 i hi, h2 i hi]; rfl
def spPairs (K : PySem.W.Frag) : Sp := fun vs H Q _ => ∃ a n m, vs = [.ref a] ∧ SqT K H a (rowV n m) ∧ n ≤ 1000 ∧ ∀ p ys G, Same H G → H p = none → G p = some (.lst ys) → DpAll K G ys ((armsN m n).map pairD) → Q (.ref p) G
def boxLine : Int := 1099511627776
def BoxAt (H : Hp) (b : Addr) (n : Nat) : Prop := ∃ x y z : Int, H b = some (.lst [.int x, .int y, .int z]) ∧ 0 ≤ x ∧ 0 ≤ z ∧ z + n ≤ boxLine
def Ap (b : Addr) (H G : Hp) : Prop := Same (hid H b) (hid G b)
theorem Ap.refl (b : Addr) (H : Hp) : Ap b H H := Same.refl _
theorem Ap.trans {b : Addr} {H G J : Hp} (h : Ap b H G) (k : Ap b G J) : Ap b H J := Same.trans h k
theorem ap_same {b : Addr} {H G : Hp} (h : Same H G) : Ap b H G := hid_mono h
theorem ap_upd {b : Addr} {H : Hp} {o : HO} : Ap b H (upd H b o) := fun a z e => by rw [hid_upd]; exact e
theorem BoxAt.mono {H : Hp} {b : Addr} {n m : Nat} (h : BoxAt H b n) (hm : m ≤ n) : BoxAt H b m := by
  obtain ⟨x, y, z, e, h1, h2, h3⟩ := h
  exact ⟨x, y, z, e, h1, h2, by omega⟩
theorem BoxAt.same {H G : Hp} {b : Addr} {n : Nat} (h : BoxAt H b n) (s : Same H G) : BoxAt G b n := by
  obtain ⟨x, y, z, e, h1, h2, h3⟩ := h
  exact ⟨x, y, z, s _ _ e, h1, h2, h3⟩
theorem BoxAt.some {H : Hp} {b : Addr} {n : Nat} (h : BoxAt H b n) : ∃ o, H b = some o := by
  obtain ⟨x, y, z, e, _⟩ := h
  exact ⟨_, e⟩
def spCell (K : PySem.W.Frag) : Sp := fun vs H Q _ => ∃ (a : Addr) (ns : List Int) (k : Int), vs = [.ref a, .int k] ∧ SqL K H a (ns.map V.int) ∧ 0 ≤ k ∧ ∀ c, Q (.int c) H
theorem scCellAt : FnScope ["_law_script", "_law_k"] ["_law_script", "_law_k"] (defScope sCellAt) := ⟨rfl, rfl, rfl, by decide +kernel, rfl, by decide +kernel, by decide +kernel⟩
theorem ok_cell_at {k : Nat} (F : Fun K "_law_cell_at" "_law_cell_at" sCellAt f fd) (B : B0 mg) : FnOk P w K mg base CX0 (k + 1) f fd ["_law_script", "_law_k"] (spCell K) := by
  refine F.ok scCellAt (fun vs H Q E h => ?_) (fun cdv A outer s H vs Q E hr h => ?_)
  · obtain ⟨a, ns, i, rfl, _⟩ := h; rfl
  obtain ⟨a, ns, i, rfl, hS, h0, q⟩ := h
  refine ⟨_, pss_cons (ps_if (pt_cmpR op_lt (pv 1) (pe_callB call_len_seq (by rfl) B.len PySem.boot_len (pa_cons (pv 0) pa_nil)) (nomark _)) (pss_one (ps_ret (pe_ix ix_list (pv 0) (pv 1) (fun _ _ => rfl)))) pss_nil) (pss_one (ps_ret pe_int)), ?_⟩
  refine ⟨_, rfl, _, rfl, a, _, rfl, .inl hS, _, _, rfl, rfl, _, rfl, ite2 (fun c => ?_) (fun c => q 0)⟩
  have c' : i < (((ns.map V.int).length : Nat) : Int) := of_decide_eq_true c
  rw [List.length_map] at c'
  have hi : i.toNat < ns.length := by omega
  have e : (ns.map V.int)[i.toNat]? = some (.int ns[i.toNat]) := by rw [List.getElem?_map, List.getElem?_eq_getElem hi]; rfl
  have z := atI_nat e
  rw [show ((i.toNat : Nat) : Int) = i by omega] at z
  exact ⟨_, rfl, _, rfl, a, _, i, _, rfl, rfl, hS, z, q _⟩
def spBox (K : PySem.W.Frag) : Sp := fun vs H Q _ => ∃ (a : Addr) (ns : List Int) (k : Int), vs = [.ref a, .int k] ∧ SqL K H a (ns.map V.int) ∧ 0 ≤ k ∧ ∀ b x y, H b = none → 0 ≤ x → Q (.ref b) (upd H b (.lst [.int x, .int y, .int 0]))
theorem b01 (b : Bool) : (-(2 ^ 64) : Int) < (if b = true then 1 else 0) ∧ (if b = true then (1 : Int) else 0) < 2 ^ 64 := by cases b <;> decide
theorem mul01 {u : Int} (h : 0 ≤ u) (b : Bool) : 0 ≤ u * (if b = true then 1 else 0) := by
  cases b with
  | true => rw [if_pos rfl, Int.mul_one]; exact h
  | false => rw [if_neg Bool.false_ne_true, Int.mul_zero]; exact Int.le_refl 0
theorem scBox : FnScope ["_law_script", "_law_k", "_law_core"] ["_law_script", "_law_k"] (defScope sBox) := ⟨rfl, rfl, rfl, by decide +kernel, rfl, by decide +kernel, by decide +kernel⟩
theorem ok_box {k : Nat} {g : Addr} {gd : FuncData} (F : Fun K "_law_box" "_law_box" sBox f fd) (B : B0 mg) (G : FnOk P w K mg base CX0 k g gd ["_law_script", "_law_k"] (spCell K)) (bG : Binds K gd ["_law_script", "_law_k"] []) (kG : PySem.W.keepIn K (.ref g) = true) (mG : mg "_law_cell_at" = some (.ref g)) :
    FnOk P w K mg base CX0 (k + 1) f fd ["_law_script", "_law_k"] (spBox K) := by
  refine F.ok scBox (fun vs H Q E h => ?_) (fun cdv A outer s H vs Q E hr h => ?_)
  · obtain ⟨a, ns, i, rfl, _⟩ := h; rfl
  obtain ⟨a, ns, i, rfl, hS, h0, q⟩ := h
  refine ⟨_, pss_cons (ps_set (i := 2) scBox.nd rfl (.inl rfl) (pe_call G hr (by rfl) mG kG bG .nil pass0 (pa_cons (pv 0) (pa_cons (pv 1) pa_nil))))
    (pss_one (ps_ret (pe_lst (pa_cons (pe_op op_mul (pe_callB call_abs (by rfl) B.abs (by decide +kernel) (pa_cons (pv 2) pa_nil)) (pe_callTy call_int1 (by rfl) B.int PyProof.Rows.boot_int (pa_cons (pe_cmpR op_ge (pe_callB call_abs (by rfl) B.abs (by decide +kernel) (pa_cons (pv 2) pa_nil)) (pe_op op_pow pe_int pe_int) (nomark _)) pa_nil)))
      (pa_cons (pe_op op_add (pe_op op_add (pe_op op_mod (pv 2) pe_int) (pe_op op_mul pe_int (pv 1))) pe_int) (pa_cons pe_int pa_nil)))))), ?_⟩
  refine ⟨_, rfl, _, rfl, a, ns, i, rfl, hS, h0, fun c => ?_⟩
  refine ⟨_, rfl, c, rfl, _, rfl, c, rfl, 10, 18, rfl, rfl, ⟨by decide, by decide, by decide⟩, _, _, rfl, rfl, .inr ⟨_, rfl, ?_⟩⟩
  refine ⟨_, _, rfl, rfl, .inr (b01 _), _, rfl, _, _, rfl, rfl, (show (0 : Int) < 2305843009213693951 by decide), _, rfl, _, _, rfl, rfl, .inl ⟨by decide, by decide⟩, _, _, rfl, rfl, _, _, rfl, rfl, (by show 3 ≤ sizeLine; decide), fun b nb => q b _ _ nb ?_⟩
  exact mul01 (by split <;> omega) _
def spTake (K : PySem.W.Frag) : Sp := fun vs H Q _ => ∃ b m n, vs = [.ref b, .int m] ∧ 0 < m ∧ m ≤ 10000000 ∧ BoxAt H b (n + 1) ∧ ∀ r G, 0 ≤ r → r < m → Ap b H G → BoxAt G b n → Q (.int r) G
theorem scTake : FnScope ["_law_box_here", "_law_below", "_law_found", "_law_once", "_law_twice"] ["_law_box_here", "_law_below"] (defScope sTake) := ⟨rfl, rfl, rfl, by decide +kernel, rfl, by decide +kernel, by decide +kernel⟩
def spNo : Sp := fun _ _ _ _ => False
theorem ok_no {ps : List Str} : FnOk P w K mg base CX0 0 f fd ps spNo := ⟨fun _ _ _ _ h => h.elim, fun _ _ _ _ _ _ _ _ _ _ _ _ _ h => h.elim⟩
theorem ok_take (F : Fun K "_law_take" "_law_take" sTake f fd) (bF : Binds K fd ["_law_box_here", "_law_below"] []) (mF : mg "_law_take" = some (.ref f)) : FnOk P w K mg base CX0 1 f fd ["_law_box_here", "_law_below"] (spTake K) := by
  have N : FnOk P w K mg base CX0 0 f fd ["_law_box_here", "_law_below"] spNo := ok_no
  refine F.ok scTake (fun vs H Q E h => ?_) (fun cdv A outer s H vs Q E hr h => ?_)
  · obtain ⟨b, m, n, rfl, _⟩ := h; rfl
  obtain ⟨b, m, n, rfl, m0, m1, ⟨x, y, z, hb, hx, hz, hn⟩, q⟩ := h
  refine ⟨_, pss_cons (ps_if (pt_cmpR op_gt (pe_ix ix_list (pv 0) pe_int (fun _ _ => rfl)) pe_int (nomark _))
      (pss_cons (ps_set (i := 2) scTake.nd rfl (.inl rfl) (pe_op op_mod (pe_ix ix_list (pv 0) pe_int (fun _ _ => rfl)) (pv 1)))
      (pss_cons (ps_asg (pe_op op_fdiv (pe_ix ix_list (pv 0) pe_int (fun _ _ => rfl)) (pv 1)) (pg_sub (pv 0) pe_int set_list))
      (pss_one (ps_ret (pv 2))))) pss_nil)
    (pss_cons (ps_if (pt_cmpR op_gt (pv 1) (pe_op op_pow pe_int pe_int) (nomark _))
      (pss_one (ps_ret (pe_op op_mod (pe_op op_add (pe_call N hr (by rfl) mF F.kp bF .nil pass0 (pa_cons (pv 0) (pa_cons (pe_op op_pow pe_int pe_int) pa_nil))) (pe_op op_mul (pe_op op_pow pe_int pe_int) (pe_call N hr (by rfl) mF F.kp bF .nil pass0 (pa_cons (pv 0) (pa_cons (pe_op op_add (pe_op op_fdiv (pv 1) (pe_op op_pow pe_int pe_int)) pe_int) pa_nil))))) (pv 1)))) pss_nil)
    (pss_cons (ps_asg (pe_op op_add (pe_ix ix_list (pv 0) pe_int (fun _ _ => rfl)) pe_int) (pg_sub (pv 0) pe_int set_list))
    (pss_cons (ps_set (i := 3) scTake.nd rfl (.inl rfl) (pe_op op_mod (pe_op op_mul (pe_op op_add (pe_ix ix_list (pv 0) pe_int (fun _ _ => rfl)) (pe_op op_mul pe_int (pe_ix ix_list (pv 0) pe_int (fun _ _ => rfl)))) (pe_op op_add pe_int (pe_ix ix_list (pv 0) pe_int (fun _ _ => rfl)))) pe_int))
    (pss_cons (ps_set (i := 4) scTake.nd rfl (.inl rfl) (pe_op op_mod (pe_op op_mul (pe_op op_add (pe_op op_add (pv 3) (pe_ix ix_list (pv 0) pe_int (fun _ _ => rfl))) (pe_op op_fdiv (pe_ix ix_list (pv 0) pe_int (fun _ _ => rfl)) pe_int)) (pe_op op_add (pe_op op_mod (pv 3) pe_int) pe_int)) pe_int))
    (pss_one (ps_ret (pe_op op_mod (pe_op op_fdiv (pe_op op_mod (pe_op op_add (pe_op op_mul (pv 4) pe_int) (pv 3)) pe_int) pe_int) (pv 1)))))))), ?_⟩
  have hL : SqL K H b [.int x, .int y, .int z] := SqL.of hb
  refine ⟨_, rfl, b, _, 0, _, rfl, rfl, hL, rfl, _, _, rfl, rfl, _, rfl, ite2 (fun c => ?_) (fun c => ?_)⟩
  · -- the great number is used up digit by digit
    refine ⟨_, rfl, b, _, 0, _, rfl, rfl, hL, rfl, _, rfl, _, _, rfl, rfl, m0, ?_⟩
    refine ⟨_, rfl, b, _, 0, _, rfl, rfl, hL, rfl, _, rfl, _, _, rfl, rfl, ⟨m0, by omega⟩, _, rfl, b, _, 0, 0, rfl, rfl, hb, rfl, ?_⟩
    refine ⟨_, rfl, q _ _ (Int.emod_nonneg _ (by omega)) (Int.emod_lt_of_pos _ m0) ap_upd ⟨x / m, y, z, upd_same, Int.ediv_nonneg hx (by omega), hz, by omega⟩⟩
  · refine ⟨_, rfl, 10, 7, rfl, rfl, ⟨by decide, by decide, by decide⟩, _, _, rfl, rfl, _, rfl, ?_⟩
    have small : ¬ (10 : Int) ^ (7 : Int).toNat < m := by
      have : (10 : Int) ^ (7 : Int).toNat = 10000000 := by decide
      omega
    rw [decide_eq_false small]
    refine iteF ⟨_, rfl, b, _, 2, _, rfl, rfl, hL, rfl, _, _, rfl, rfl, _, rfl, b, _, 2, 2, rfl, rfl, hb, rfl, ?_⟩
    have hb2 : (upd H b (.lst (([.int x, .int y, .int z] : List V).set 2 (.int (z + 1))))) b = some (.lst [.int x, .int y, .int (z + 1)]) := upd_same
    have hL2 : SqL K (upd H b (.lst (([.int x, .int y, .int z] : List V).set 2 (.int (z + 1))))) b [.int x, .int y, .int (z + 1)] := SqL.of hb2
    unfold boxLine at hn
    refine ⟨_, rfl, b, _, 1, _, rfl, rfl, hL2, rfl, _, rfl, b, _, 2, _, rfl, rfl, hL2, rfl, _, _, rfl, rfl, .inl ⟨by decide, by decide⟩, _, _, rfl, rfl, _, rfl, b, _, 2, _, rfl, rfl, hL2, rfl, _, _, rfl, rfl, _, _, rfl, rfl, .inr ⟨by omega, by omega⟩, _, _, rfl, rfl, (show (0 : Int) < 2147483647 by decide), ?_⟩
    show gName 3 (V.int ((y + 48271 * (z + 1)) * (39373 + (z + 1)) % 2147483647)) _ _ _
    generalize (y + 48271 * (z + 1)) * (39373 + (z + 1)) % 2147483647 = u
    have u7 : 0 ≤ u % 40009 := Int.emod_nonneg _ (by decide)
    have u8 : u % 40009 < 40009 := Int.emod_lt_of_pos _ (by decide)
    refine ⟨_, rfl, _, rfl, b, _, 2, _, rfl, rfl, hL2, rfl, _, _, rfl, rfl, _, rfl, b, _, 1, _, rfl, rfl, hL2, rfl, _, _, rfl, rfl, ⟨by decide, by decide⟩, _, _, rfl, rfl, _, rfl, _, _, rfl, rfl, (show (0 : Int) < 40009 by decide), _, _, rfl, rfl, _, _, rfl, rfl, .inr ⟨by omega, by omega⟩, _, _, rfl, rfl, (show (0 : Int) < 2147483629 by decide), ?_⟩
    refine ⟨_, rfl, _, _, rfl, rfl, .inr ⟨by decide, by decide⟩, _, rfl, _, _, rfl, rfl, _, _, rfl, rfl, (show (0 : Int) < 2147483587 by decide), _, _, rfl, rfl, ⟨by decide, by decide⟩, _, rfl, _, _, rfl, rfl, m0, ?_⟩
    exact q _ _ (Int.emod_nonneg _ (by omega)) (Int.emod_lt_of_pos _ m0) ap_upd ⟨x, y, z + 1, hb2, hx, by omega, by unfold boxLine; omega⟩
theorem kit2 {K : PySem.W.Frag} {T U : String} {f g : PyData → Bool} (kf : ∀ d, kitB (tyD d) T = some (f d)) (kg : ∀ d, kitB (tyD d) U = some (g d)) (d : PyData) : PySem.W.kitAny K (.type (tyD d)) [.type T, .type U] = some (f d || g d) := by
  refine kitAny_cons (kit_ty (kf d)) (fun e => ?_) (fun e => by rw [e]; rfl)
  refine kitAny_cons (kit_ty (kg d)) (fun e2 => ?_) (fun e2 => by rw [e2]; simp)
  rw [e, e2]; rfl
theorem walk_zipT {K : PySem.W.Frag} {a b : Addr} {xs ys : List V} {n : Nat} (hn : n = min xs.length ys.length) : Walk (RZ.ItzT K a b) n (fun H => SqT K H a xs ∧ SqT K H b ys) (YPair (fun i => xs[i]?) (fun i => ys[i]?)) := by
  subst hn
  refine ⟨fun i H hi q => ?_, fun H q => ⟨xs, ys, q.1, q.2, by omega⟩, fun i H v G _ q y => ?_⟩
  · exact ⟨xs, ys, xs[i]'(by omega), ys[i]'(by omega), q.1, q.2, List.getElem?_eq_getElem (by omega), List.getElem?_eq_getElem (by omega)⟩
  · obtain ⟨T, x, z, h1, h2, h3, h4, h5⟩ := y
    exact ⟨T, x, z, h1, h2, h3, h4 xs q.1, h5 ys q.2⟩
theorem depth_mem {ds : List PyData} {i : Nat} (h : i < ds.length) : (ds.getD i .none).depth ≤ PyData.depthAll ds := by
  induction ds generalizing i with
  | nil => cases h
  | cons d ds ih =>
    cases i with
    | zero => exact Nat.le_max_left _ _
    | succ i => exact Nat.le_trans (ih (by simpa using h)) (Nat.le_max_right _ _)
mutual
/-- how many nodes -/
def numD : PyData → Nat
  | .list xs => numL xs + 1
  | .tuple xs => numL xs + 1
  | .none => 1 | .bool _ => 1 | .int _ => 1 | .str _ => 1 | .dict _ => 1
def numL : List PyData → Nat
  | [] => 0
  | x :: xs => numD x + numL xs
end
theorem numD_pos (d : PyData) : 1 ≤ numD d := by cases d <;> simp only [numD] <;> omega
theorem num_len (ds : List PyData) : ds.length ≤ numL ds := by
  induction ds with
  | nil => exact Nat.le_refl _
  | cons d ds ih =>
    have := numD_pos d
    simp only [numL, List.length_cons]; omega
theorem num_mem {ds : List PyData} {i : Nat} (h : i < ds.length) : numD (ds.getD i .none) ≤ numL ds := by
  induction ds generalizing i with
  | nil => cases h
  | cons d ds ih =>
    cases i with
    | zero => simp only [numL, List.getD_cons_zero]; omega
    | succ i =>
      have := ih (i := i) (by simpa using h)
      simp only [numL, List.getD_cons_succ]; omega
def spSame (K : PySem.W.Frag) (n : Nat) : Sp := fun vs H Q _ => ∃ v u d, vs = [v, u] ∧ Dp K H v d ∧ Dp K H u d ∧ d.depth < n ∧ numD d ≤ 100000 ∧ ∀ G, Same H G → Q (.bl true) G
theorem scSame : FnScope ["_law_found", "_law_due", "_law_a", "_law_b"] ["_law_found", "_law_due"] (defScope sSame) := ⟨rfl, rfl, rfl, by decide +kernel, rfl, by decide +kernel, by decide +kernel⟩
theorem all_true (n : Nat) : ((List.replicate n true)).all id = true := by
  rw [List.all_eq_true]
  intro x hx
  rw [List.eq_of_mem_replicate hx]; rfl
theorem ok_same_step {n : Nat} (F : Fun K "_law_same" "_law_same" sSame f fd) (B : B0 mg) (ms : mg "str" = none) (G : FnOk P w K mg base CX0 n f fd ["_law_found", "_law_due"] (spSame K n)) (bG : Binds K fd ["_law_found", "_law_due"] []) (mG : mg "_law_same" = some (.ref f)) :
    FnOk P w K mg base CX0 (n + 1) f fd ["_law_found", "_law_due"] (spSame K (n + 1)) := by
  refine F.ok scSame (fun vs H Q E h => ?_) (fun cdv A outer s H vs Q E hr h => ?_)
  · obtain ⟨v, u, d, rfl, _⟩ := h; rfl
  obtain ⟨v, u, d, rfl, hv, hu, hdep, hnum, q⟩ := h
  refine ⟨_, pss_cons (ps_if (pt_val (pe_callB call_isiT (by rfl) B.isinstance PyProof.Rows.boot_isinstance (pa_cons (pv 1) (pa_cons (pe_tup (pa_cons (pe_list_ (by rfl) B.list) (pa_cons (pe_tuple_ (by rfl) B.tuple) pa_nil))) pa_nil))))
      (pss_cons (ps_if (PW.pt (pw_or (pt_cmpR op_ne (pe_callB call_isi (by rfl) B.isinstance PyProof.Rows.boot_isinstance (pa_cons (pv 0) (pa_cons (pe_list_ (by rfl) B.list) pa_nil))) (pe_callB call_isi (by rfl) B.isinstance PyProof.Rows.boot_isinstance (pa_cons (pv 1) (pa_cons (pe_list_ (by rfl) B.list) pa_nil))) (nomark _))
          (pw_or1 (pt_cmpR op_ne (pe_callB call_isi (by rfl) B.isinstance PyProof.Rows.boot_isinstance (pa_cons (pv 0) (pa_cons (pe_tuple_ (by rfl) B.tuple) pa_nil))) (pe_callB call_isi (by rfl) B.isinstance PyProof.Rows.boot_isinstance (pa_cons (pv 1) (pa_cons (pe_tuple_ (by rfl) B.tuple) pa_nil))) (nomark _))))) (pss_one (ps_ret pe_bl)) pss_nil)
      (pss_one (ps_ret (pe_and (pe_cmpR op_eq (pe_callB call_len_seq (by rfl) B.len PySem.boot_len (pa_cons (pv 0) pa_nil)) (pe_callB call_len_seq (by rfl) B.len PySem.boot_len (pa_cons (pv 1) pa_nil)) (nomark _))
        (pe_one (pe_callB (cr_all rfl) (by rfl) B.all PyProof.Rows.boot_all (pa_cons (pe_lc (own := [("_law_a", 2), ("_law_b", 3)]) (g := gTup K 2 (gCons (gName 2) (gCons (gName 3) gNil))) (tt := tYes) (te := tCall (spSame K n) [] E0 (tCons (tVar 2) (tCons (tVar 3) tNil))) (by rfl) scSame.nd (RZ.pi_zipA (by rfl) B.zip (pa_cons (pv 0) (pa_cons (pv 1) pa_nil)))
          (blkOk_by (N := ["_law_found", "_law_due", "_law_a", "_law_b"]) (sc := defScope sSame) (by decide +kernel)) (fun _ _ _ _ _ => pg_tup rfl (pgs_cons (pg_name (i := 2) scSame.nd rfl (Or.inl rfl)) (pgs_cons (pg_name (i := 3) scSame.nd rfl (Or.inl rfl)) pgs_nil)))
          (fun _ _ _ _ _ => pts_nil) (fun _ _ _ _ _ => pe_call G hr (by rfl) mG F.kp bG .nil pass0 (pa_cons (pv 2) (pa_cons (pv 3) pa_nil)))) pa_nil))))))) pss_nil)
    (pss_cons (ps_if (PW.pt (pw_or (pt_cmpR op_isN (pv 1) pe_non (nomark _)) (pw_or1 (pt_val (pe_callB call_isiT (by rfl) B.isinstance PyProof.Rows.boot_isinstance (pa_cons (pv 1) (pa_cons (pe_tup (pa_cons (pe_bool_ (by rfl) B.bool) (pa_cons (pe_bltn (v := .ty "str") (by rfl) ms PyProof.Rows.boot_str rfl) pa_nil))) pa_nil)))))))
      (pss_one (ps_ret (pe_and (pe_cmpR op_eq (pv 0) (pv 1) (nomark _)) (pe_and (pe_cmpR op_eq (pe_callB call_isi (by rfl) B.isinstance PyProof.Rows.boot_isinstance (pa_cons (pv 0) (pa_cons (pe_bool_ (by rfl) B.bool) pa_nil))) (pe_callB call_isi (by rfl) B.isinstance PyProof.Rows.boot_isinstance (pa_cons (pv 1) (pa_cons (pe_bool_ (by rfl) B.bool) pa_nil))) (nomark _))
        (pe_one (pe_cmpR op_eq (pe_cmpR op_isN (pv 0) pe_non (nomark _)) (pe_cmpR op_isN (pv 1) pe_non (nomark _)) (nomark _))))))) pss_nil)
    (pss_one (ps_ret (pe_and (pe_callB call_isi (by rfl) B.isinstance PyProof.Rows.boot_isinstance (pa_cons (pv 0) (pa_cons (pe_int_ (by rfl) B.int) pa_nil))) (pe_and (pe_not (pe_callB call_isi (by rfl) B.isinstance PyProof.Rows.boot_isinstance (pa_cons (pv 0) (pa_cons (pe_bool_ (by rfl) B.bool) pa_nil)))) (pe_one (pe_cmpR op_eq (pv 0) (pv 1) (nomark _)))))))), ?_⟩
  refine ⟨_, rfl, (by show 2 ≤ sizeLine; decide), fun p np => ?_⟩
  have s1 : Same H (upd H p (.tup [.ty "list", .ty "tuple"])) := same_new np
  have hv1 := same_dp s1 hv
  have hu1 := same_dp s1 hu
  refine ⟨u, p, _, _, [.type "list", .type "tuple"], _, rfl, upd_same, .cons (.ty _) (.cons (.ty _) .nil), dp_ty hu1, kit2 kit_list kit_tuple d, _, rfl, ?_⟩
  -- a list or a tuple
  have body : ∀ (a b : Addr) (xs ys : List V) (ds : List PyData), v = .ref a → u = .ref b → DpAll K H xs ds → DpAll K H ys ds → PyData.depthAll ds < n → numL ds ≤ 100000 → ((SqL K H a xs ∧ SqL K H b ys) ∨ (SqT K H a xs ∧ SqT K H b ys)) →
      tAndV (tOp rEq (tCB (fun xs H Q => ∃ p ys, xs = [.ref p] ∧ (SqL K H p ys ∨ SqT K H p ys) ∧ Q (.int ys.length) H) (tCons (tVar 0) tNil)) (tCB (fun xs H Q => ∃ p ys, xs = [.ref p] ∧ (SqL K H p ys ∨ SqT K H p ys) ∧ Q (.int ys.length) H) (tCons (tVar 1) tNil)))
        (tCB (rAll K) (tCons (tLc (RZ.iZipA K (tCons (tVar 0) (tCons (tVar 1) tNil))) (gTup K 2 (gCons (gName 2) (gCons (gName 3) gNil))) tYes (tCall (spSame K n) [] E0 (tCons (tVar 2) (tCons (tVar 3) tNil))) [2, 3]) tNil)) [some v, some u, none, none] (upd H p (.tup [.ty "list", .ty "tuple"])) Q := by
    intro a b xs ys ds ea eb hx hy hd hm hs
    subst ea eb
    have lx := dpAll_len hx
    have ly := dpAll_len hy
    have hsA : (SqL K (upd H p (.tup [.ty "list", .ty "tuple"])) a xs ∨ SqT K (upd H p (.tup [.ty "list", .ty "tuple"])) a xs) := hs.imp (fun z => s1.seq z.1) (fun z => same_tup s1 z.1)
    have hsB : (SqL K (upd H p (.tup [.ty "list", .ty "tuple"])) b ys ∨ SqT K (upd H p (.tup [.ty "list", .ty "tuple"])) b ys) := hs.imp (fun z => s1.seq z.2) (fun z => same_tup s1 z.2)
    refine ⟨_, rfl, a, xs, rfl, hsA, _, rfl, b, ys, rfl, hsB, rfl, _, rfl, ?_⟩
    rw [decide_eq_true (show V.int (xs.length : Nat) = V.int (ys.length : Nat) by rw [lx, ly])]
    refine iteT ⟨_, rfl, _, rfl, a, b, xs, ys, rfl, ?_⟩
    have turn : ∀ (D : Addr) (i : Nat) (x : V) (G1 G2 : Hp), (upd H p (.tup [.ty "list", .ty "tuple"])) D = none → i < ds.length → Same (upd H p (.tup [.ty "list", .ty "tuple"])) G1 ∧ G1 D = some (.lst ((List.replicate i true).map V.bl)) → YPair (fun i => xs[i]?) (fun i => ys[i]?) i G1 x G2 → ∃ T x1 x2, x = .ref T ∧ G2 T = some (.tup [x1, x2]) ∧ Dp K G2 x1 (ds.getD i .none) ∧ Dp K G2 x2 (ds.getD i .none) ∧ Same (upd H p (.tup [.ty "list", .ty "tuple"])) G2 ∧ G2 D = some (.lst ((List.replicate i true).map V.bl)) := by
      rintro D i x G1 G2 nD hi ⟨sm, hD⟩ ⟨T, x1, x2, rfl, nT, rfl, e1, e2⟩
      have sm2 := sm.trans (same_new (o := .tup [x1, x2]) nT)
      have smH := s1.trans sm2
      exact ⟨T, x1, x2, rfl, upd_same, same_dp smH (dpAll_get hx e1), same_dp smH (dpAll_get hy e2), sm2, by rw [upd_ne (ne_of_none hD nT)]; exact hD⟩
    have fin : ∀ (D : Addr) (G1 : Hp), Same (upd H p (.tup [.ty "list", .ty "tuple"])) G1 ∧ G1 D = some (.lst ((List.replicate ds.length true).map V.bl)) → rAll K [.ref D] G1 Q := by
      rintro D G1 ⟨sm, hD⟩
      refine ⟨D, _, rfl, SqL.of hD, ?_⟩
      rw [all_true]; exact q _ (s1.trans sm)
    have step : ∀ (D : Addr) (i : Nat) (x : V) (G1 G2 : Hp), (upd H p (.tup [.ty "list", .ty "tuple"])) D = none → i < ds.length → Same (upd H p (.tup [.ty "list", .ty "tuple"])) G1 ∧ G1 D = some (.lst ((List.replicate i true).map V.bl)) → YPair (fun i => xs[i]?) (fun i => ys[i]?) i G1 x G2 →
        gTup K 2 (gCons (gName 2) (gCons (gName 3) gNil)) x (wipe [some (.ref a), some (.ref b), none, none] [2, 3]) G2 fun σ2 H2 => wipe σ2 [2, 3] = wipe [some (.ref a), some (.ref b), none, none] [2, 3] ∧ tYes σ2 H2 fun b2 H3 => if b2 = true then tCall (spSame K n) [] E0 (tCons (tVar 2) (tCons (tVar 3) tNil)) σ2 H3 fun y H4 => ∃ acc, H4 D = some (.lst acc) ∧ acc.length < sizeLine ∧
          (Same (upd H p (.tup [.ty "list", .ty "tuple"])) (upd H4 D (.lst (acc ++ [y]))) ∧ (upd H4 D (.lst (acc ++ [y]))) D = some (.lst ((List.replicate (i + 1) true).map V.bl))) else (Same (upd H p (.tup [.ty "list", .ty "tuple"])) H3 ∧ H3 D = some (.lst ((List.replicate (i + 1) true).map V.bl))) := by
      intro D i x G1 G2 nD hi pp y
      obtain ⟨T, x1, x2, rfl, hT, d1, d2, sm2, hD⟩ := turn D i x G1 G2 nD hi pp y
      refine ⟨T, _, rfl, SqT.of hT, rfl, _, _, rfl, _, _, rfl, rfl, rfl, _, rfl, _, rfl, x1, x2, _, rfl, d1, d2, Nat.lt_of_le_of_lt (depth_mem hi) hd, Nat.le_trans (num_mem hi) hm, fun G3 sm3 => ⟨_, sm3 D _ hD, ?_, ?_, ?_⟩⟩
      · rw [List.length_map, List.length_replicate, sizeLine_eq]
        have := num_len ds
        omega
      · exact same_grow nD (sm2.trans sm3)
      · rw [upd_same, List.replicate_succ', List.map_append]; rfl
    rcases hs with ⟨z1, z2⟩ | ⟨z1, z2⟩
    · refine .inl ⟨s1.seq z1, s1.seq z2, fun D nD => lc_it (walk_zip (n := ds.length) (by omega)) (fun i G1 => Same (upd H p (.tup [.ty "list", .ty "tuple"])) G1 ∧ G1 D = some (.lst ((List.replicate i true).map V.bl))) ⟨same_new nD, upd_same⟩ (fun i G1 _ p => ⟨p.1.seq (s1.seq z1), p.1.seq (s1.seq z2)⟩) (fun i x G1 G2 hi p y => step D i x G1 G2 nD hi p y) (fun G1 p => fin D G1 p)⟩
    · exact .inr ⟨same_tup s1 z1, same_tup s1 z2, fun D nD => lc_it (walk_zipT (n := ds.length) (by omega)) (fun i G1 => Same (upd H p (.tup [.ty "list", .ty "tuple"])) G1 ∧ G1 D = some (.lst ((List.replicate i true).map V.bl))) ⟨same_new nD, upd_same⟩ (fun i G1 _ p => ⟨same_tup p.1 (same_tup s1 z1), same_tup p.1 (same_tup s1 z2)⟩) (fun i x G1 G2 hi p y => step D i x G1 G2 nD hi p y) (fun G1 p => fin D G1 p)⟩
  have qq : ∀ G, Same (upd H p (.tup [.ty "list", .ty "tuple"])) G → Q (.bl true) G := fun G sm => q G (s1.trans sm)
  cases hv with
  | @lst a xs ds hs ha =>
    cases hu with
    | @lst b ys _ hs2 ha2 =>
      refine iteT ?_
      refine ⟨_, rfl, _, _, _, _, _, rfl, .ty _, dp_ty hv1, kit_ty (kit_list _), _, rfl, _, _, _, _, _, rfl, .ty _, dp_ty hu1, kit_ty (kit_list _), rfl, _, rfl, iteF ?_⟩
      refine ⟨_, rfl, _, _, _, _, _, rfl, .ty _, dp_ty hv1, kit_ty (kit_tuple _), _, rfl, _, _, _, _, _, rfl, .ty _, dp_ty hu1, kit_ty (kit_tuple _), rfl, _, rfl, iteF ?_⟩
      exact body a b xs ys ds rfl rfl ha ha2 (by simp only [PyData.depth] at hdep; omega) (by simp only [numD] at hnum; omega) (.inl ⟨hs, hs2⟩)
  | @tup a xs ds hs ha =>
    cases hu with
    | @tup b ys _ hs2 ha2 =>
      refine iteT ?_
      refine ⟨_, rfl, _, _, _, _, _, rfl, .ty _, dp_ty hv1, kit_ty (kit_list _), _, rfl, _, _, _, _, _, rfl, .ty _, dp_ty hu1, kit_ty (kit_list _), rfl, _, rfl, iteF ?_⟩
      refine ⟨_, rfl, _, _, _, _, _, rfl, .ty _, dp_ty hv1, kit_ty (kit_tuple _), _, rfl, _, _, _, _, _, rfl, .ty _, dp_ty hu1, kit_ty (kit_tuple _), rfl, _, rfl, iteF ?_⟩
      exact body a b xs ys ds rfl rfl ha ha2 (by simp only [PyData.depth] at hdep; omega) (by simp only [numD] at hnum; omega) (.inr ⟨hs, hs2⟩)
  | non =>
    cases hu
    refine iteF ⟨_, rfl, rfl, _, rfl, iteT (iteT ?_)⟩
    refine ⟨_, rfl, _, rfl, rfl, _, rfl, iteT ?_⟩
    refine ⟨_, rfl, _, _, _, _, _, rfl, .ty _, dp_ty hv1, kit_ty (kit_bool _), _, rfl, _, _, _, _, _, rfl, .ty _, dp_ty hu1, kit_ty (kit_bool _), rfl, _, rfl, iteT ?_⟩
    exact ⟨_, rfl, rfl, _, rfl, rfl, rfl, qq _ (Same.refl _)⟩
  | bl b =>
    cases hu
    refine iteF ⟨_, rfl, rfl, _, rfl, iteF ?_⟩
    refine ⟨_, rfl, (by show 2 ≤ sizeLine; decide), fun p2 np2 => ?_⟩
    refine ⟨_, p2, _, _, [.type "bool", .type "str"], _, rfl, upd_same, .cons (.ty _) (.cons (.ty _) .nil), dp_ty (.bl b), kit2 kit_bool kit_str (.bool b), _, rfl, iteT ?_⟩
    refine ⟨_, rfl, _, rfl, rfl, _, rfl, ?_⟩
    rw [decide_eq_true rfl]
    refine iteT ⟨_, rfl, _, _, _, _, _, rfl, .ty _, dp_ty (.bl b), kit_ty (kit_bool _), _, rfl, _, _, _, _, _, rfl, .ty _, dp_ty (.bl b), kit_ty (kit_bool _), rfl, _, rfl, iteT ?_⟩
    exact ⟨_, rfl, rfl, _, rfl, rfl, rfl, qq _ (same_new np2)⟩
  | str x =>
    cases hu
    refine iteF ⟨_, rfl, rfl, _, rfl, iteF ?_⟩
    refine ⟨_, rfl, (by show 2 ≤ sizeLine; decide), fun p2 np2 => ?_⟩
    refine ⟨_, p2, _, _, [.type "bool", .type "str"], _, rfl, upd_same, .cons (.ty _) (.cons (.ty _) .nil), dp_ty (.str x), kit2 kit_bool kit_str (.str x), _, rfl, iteT ?_⟩
    refine ⟨_, rfl, _, rfl, rfl, _, rfl, ?_⟩
    rw [decide_eq_true rfl]
    refine iteT ⟨_, rfl, _, _, _, _, _, rfl, .ty _, dp_ty (.str x), kit_ty (kit_bool _), _, rfl, _, _, _, _, _, rfl, .ty _, dp_ty (.str x), kit_ty (kit_bool _), rfl, _, rfl, iteT ?_⟩
    exact ⟨_, rfl, rfl, _, rfl, rfl, rfl, qq _ (same_new np2)⟩
  | int i =>
    cases hu
    refine iteF ⟨_, rfl, rfl, _, rfl, iteF ?_⟩
    refine ⟨_, rfl, (by show 2 ≤ sizeLine; decide), fun p2 np2 => ?_⟩
    refine ⟨_, p2, _, _, [.type "bool", .type "str"], _, rfl, upd_same, .cons (.ty _) (.cons (.ty _) .nil), dp_ty (.int i), kit2 kit_bool kit_str (.int i), _, rfl, iteF ?_⟩
    refine ⟨_, rfl, _, _, _, _, _, rfl, .ty _, dp_ty (.int i), kit_ty (kit_int _), _, rfl, iteT ?_⟩
    refine ⟨_, rfl, _, _, _, _, _, rfl, .ty _, dp_ty (.int i), kit_ty (kit_bool _), _, rfl, _, rfl, iteT ?_⟩
    refine ⟨_, rfl, _, rfl, rfl, ?_⟩
    rw [decide_eq_true rfl]
    exact qq _ (same_new np2)
theorem ok_same (F : Fun K "_law_same" "_law_same" sSame f fd) (B : B0 mg) (ms : mg "str" = none) (bG : Binds K fd ["_law_found", "_law_due"] []) (mG : mg "_law_same" = some (.ref f)) : ∀ n, FnOk P w K mg base CX0 n f fd ["_law_found", "_law_due"] (spSame K n)
  | 0 => by
    have no : ∀ vs H Q E, ¬ spSame K 0 vs H Q E := fun vs H Q E ⟨_, _, _, _, _, _, h, _⟩ => absurd h (Nat.not_lt_zero _)
    exact ⟨fun vs H Q E h => absurd h (no vs H Q E), fun _ _ _ H _ _ vs Q E _ _ _ _ h => absurd h (no vs H Q E)⟩
  | n + 1 => ok_same_step F B ms (ok_same F B ms bG mG n) bG mG
theorem erase_perm : ∀ {l : List Int} {i : Nat} (h : i < l.length), (l[i] :: l.eraseIdx i).Perm l
  | _ :: _, 0, _ => List.Perm.refl _
  | x :: l, i + 1, h => by
    have ih := erase_perm (l := l) (i := i) (by simpa using h)
    exact (List.Perm.swap x _ _).trans (ih.cons x)
theorem map_erase : ∀ (l : List Int) (i : Nat), (l.map V.int).eraseIdx i = (l.eraseIdx i).map V.int
  | [], _ => rfl
  | _ :: _, 0 => rfl
  | x :: l, i + 1 => by
    show V.int x :: (l.map V.int).eraseIdx i = V.int x :: (l.eraseIdx i).map V.int
    rw [map_erase l i]
theorem box_ne {H : Hp} {b p : Addr} {n : Nat} (h : BoxAt H b n) (hp : H p = none) : p ≠ b := fun e => by
  obtain ⟨o, z⟩ := h.some
  rw [e, z] at hp; cases hp
theorem hid_lst {H : Hp} {b a : Addr} {o : HO} (h : H a = some o) (ne : a ≠ b) : hid H b a = some o := by rw [hid_ne ne]; exact h
theorem ap_get {b a : Addr} {H G : Hp} {o : HO} (h : Ap b H G) (e : H a = some o) (ne : a ≠ b) : G a = some o := by
  have z := h a o (hid_lst e ne)
  rw [hid_ne ne] at z; exact z
theorem ap_up {b a : Addr} {H G : Hp} {o : HO} (h : Ap b H G) (na : H a = none) : Ap b H (upd G a o) := fun c z e => by
  have ne : c ≠ b := fun q => by rw [q, hid_at] at e; cases e
  have nc : c ≠ a := fun q => by rw [hid_ne ne, q, na] at e; cases e
  have y := h c z e
  rw [hid_ne ne] at y ⊢
  rw [upd_ne nc]; exact y
theorem box_up {b a : Addr} {G : Hp} {o : HO} {n : Nat} (h : BoxAt G b n) (ne : a ≠ b) : BoxAt (upd G a o) b n := by
  obtain ⟨x, y, z, e, h1, h2, h3⟩ := h
  exact ⟨x, y, z, by rw [upd_ne (Ne.symm ne)]; exact e, h1, h2, h3⟩
def spOf (K : PySem.W.Frag) : Sp := fun vs H Q _ => ∃ b a xs n, vs = [.ref b, .ref a] ∧ SqL K (hid H b) a xs ∧ 0 < xs.length ∧ xs.length ≤ 1000 ∧ BoxAt H b (n + 1) ∧ ∀ (i : Nat) (x : V) (G : Hp), xs[i]? = some x → Ap b H G → BoxAt G b n → Q x G
theorem scOf : FnScope ["_law_box_here", "_law_pool"] ["_law_box_here", "_law_pool"] (defScope sOf) := ⟨rfl, rfl, rfl, by decide +kernel, rfl, by decide +kernel, by decide +kernel⟩
theorem ok_of {k : Nat} {g : Addr} {gd : FuncData} (F : Fun K "_law_of" "_law_of" sOf f fd) (B : B0 mg) (T : FnOk P w K mg base CX0 k g gd ["_law_box_here", "_law_below"] (spTake K)) (bT : Binds K gd ["_law_box_here", "_law_below"] []) (kT : PySem.W.keepIn K (.ref g) = true) (mT : mg "_law_take" = some (.ref g)) :
    FnOk P w K mg base CX0 (k + 1) f fd ["_law_box_here", "_law_pool"] (spOf K) := by
  refine F.ok scOf (fun vs H Q E h => ?_) (fun cdv A outer s H vs Q E hr h => ?_)
  · obtain ⟨b, a, xs, n, rfl, _⟩ := h; rfl
  obtain ⟨b, a, xs, n, rfl, hS, h0, h1, hB, q⟩ := h
  refine ⟨_, pss_one (ps_ret (pe_ix ix_list (pv 1) (pe_call T hr (by rfl) mT kT bT .nil pass0 (pa_cons (pv 0) (pa_cons (pe_callB call_len_seq (by rfl) B.len PySem.boot_len (pa_cons (pv 1) pa_nil)) pa_nil))) (fun _ _ => rfl))), ?_⟩
  refine ⟨_, rfl, _, rfl, _, rfl, a, xs, rfl, .inl ((hid_same H b).seq hS), b, _, n, rfl, by omega, by omega, hB, fun r G r0 r1 ap hB2 => ?_⟩
  have hr2 : r.toNat < xs.length := by omega
  have hx : xs[r.toNat]? = some xs[r.toNat] := List.getElem?_eq_getElem hr2
  have hat : atI xs r = some xs[r.toNat] := by
    have z := atI_nat hx
    rwa [show ((r.toNat : Nat) : Int) = r by omega] at z
  exact ⟨a, xs, r, _, rfl, rfl, (hid_same G b).seq (Same.seq ap hS), hat, q _ _ G hx ap hB2⟩
def spStrewn (K : PySem.W.Frag) : Sp := fun vs H Q _ => ∃ (b a : Addr) (ns : List Int) (n : Nat), vs = [.ref b, .ref a] ∧ SqL K (hid H b) a (ns.map V.int) ∧ ns.length ≤ 1000 ∧ BoxAt H b (n + ns.length) ∧
  ∀ (p : Addr) (ms : List Int) (G : Hp), ms.Perm ns → Ap b H G → BoxAt G b n → H p = none → G p = some (.lst (ms.map V.int)) → Q (.ref p) G
theorem dp_ints {H : Hp} : ∀ ns : List Int, DpAll K H (ns.map V.int) (ns.map PyData.int)
  | [] => .nil
  | n :: ns => .cons (.int n) (dp_ints ns)
theorem shaped_ints (ns : List Int) : SeqAt.shaped (.list (ns.map PyData.int)) = true := by
  have h1 : ∀ l : List Int, PyData.canLayAll0 (l.map PyData.int) = true := by
    intro l; induction l with
    | nil => rfl
    | cons x l ih => show (PyData.canLay0 (.int x) && PyData.canLayAll0 (l.map PyData.int)) = true; rw [ih]; rfl
  have h2 : ∀ l : List Int, PyData.depthAll (l.map PyData.int) = 0 := by
    intro l; induction l with
    | nil => rfl
    | cons x l ih => show max (PyData.depth (.int x)) (PyData.depthAll (l.map PyData.int)) = 0; rw [ih]; rfl
  show (PyData.canLayAll0 (ns.map PyData.int) && decide (PyData.depthAll (ns.map PyData.int) + 1 ≤ 64)) = true
  rw [h1, h2]; rfl
theorem eqv_nil (ns : List Int) : PyData.eqv (.list (ns.map PyData.int)) (.list []) = ns.isEmpty := by
  cases ns <;> simp [PyData.eqv, PyData.eqvAll]
abbrev Iv := Addr × Nat × Nat
def ivD (e : Iv) : PyData := pairD e.2
def ivLen : List Iv → Nat
  | [] => 0
  | e :: L => (e.2.2 - e.2.1) + ivLen L
theorem ivLen_app : ∀ L M : List Iv, ivLen (L ++ M) = ivLen L + ivLen M
  | [], M => by simp [ivLen]
  | e :: L, M => by show _ + ivLen (L ++ M) = _; rw [ivLen_app L M, ivLen]; omega
theorem dp_iv {K : PySem.W.Frag} {G : Hp} : ∀ {L : List Iv}, (∀ e ∈ L, SqT K G e.1 [.int (e.2.1 : Nat), .int (e.2.2 : Nat)]) → DpAll K G (L.map fun e => V.ref e.1) (L.map ivD)
  | [], _ => .nil
  | e :: L, h => .cons (.tup (h e (by simp)) (.cons (.int _) (.cons (.int _) .nil))) (dp_iv fun e' he => h e' (by simp [he]))
theorem shaped_iv (L : List Iv) : SeqAt.shaped (.list (L.map ivD)) = true := by
  have h1 : ∀ l : List Iv, PyData.canLayAll0 (l.map ivD) = true := by
    intro l; induction l with
    | nil => rfl
    | cons x l ih => show (PyData.canLay0 (ivD x) && PyData.canLayAll0 (l.map ivD)) = true; rw [ih]; rfl
  have h2 : ∀ l : List Iv, PyData.depthAll (l.map ivD) ≤ 1 := by
    intro l; induction l with
    | nil => exact Nat.zero_le _
    | cons x l ih => show max (PyData.depth (ivD x)) (PyData.depthAll (l.map ivD)) ≤ 1; exact Nat.max_le.mpr ⟨Nat.le_refl _, ih⟩
  show (PyData.canLayAll0 (L.map ivD) && decide (PyData.depthAll (L.map ivD) + 1 ≤ 64)) = true
  rw [h1, decide_eq_true (by have := h2 L; omega)]; rfl
theorem eqv_iv (L : List Iv) : PyData.eqv (.list (L.map ivD)) (.list []) = L.isEmpty := by
  cases L <;> simp [PyData.eqv, PyData.eqvAll]
def natV (ns : List Nat) : List V := ns.map fun i => V.int (i : Nat)
theorem natV_set (ns : List Nat) (i v : Nat) : (natV ns).set i (.int (v : Nat)) = natV (ns.set i v) := by
  unfold natV; rw [List.map_set]
theorem natV_row (ns : List Nat) : natV ns = rowV ns.length (fun i => ns.getD i 0) := by
  apply List.ext_getElem?
  intro i
  unfold natV rowV
  rw [List.getElem?_map, List.getElem?_map]
  by_cases h : i < ns.length
  · rw [List.getElem?_range h, List.getElem?_eq_getElem h]
    show some (V.int _) = some (V.int ((ns.getD i 0 : Nat) : Int))
    rw [List.getD_eq_getElem?_getD, List.getElem?_eq_getElem h]; rfl
  · rw [List.getElem?_eq_none (by omega), List.getElem?_eq_none (by rw [List.length_range]; omega)]; rfl
theorem rep_zero (k : Nat) : (List.replicate k [V.int 0]).flatten = natV (List.replicate k 0) := by
  induction k with
  | zero => rfl
  | succ k ih =>
    rw [List.replicate_succ, List.flatten_cons, ih, List.replicate_succ]; rfl
theorem tup_up {G : Hp} {a l : Addr} {xs ys zs : List V} (h : G a = some (.tup xs)) (hl : G l = some (.lst ys)) : (upd G l (.lst zs)) a = some (.tup xs) := by
  rw [upd_ne (ne_of h hl (by intro z; cases z))]; exact h
theorem tup_ap {b a : Addr} {G J : Hp} {n : Nat} {xs : List V} (h : G a = some (.tup xs)) (hB : BoxAt G b n) (ap : Ap b G J) : J a = some (.tup xs) := by
  obtain ⟨x, y, z, e, _⟩ := hB
  exact ap_get ap h (ne_of h e (by intro z; cases z))
theorem ap_none {b p : Addr} {H G : Hp} {n : Nat} (ap : Ap b H G) (hB : BoxAt G b n) (hp : G p = none) : H p = none := by
  have ne := box_ne hB hp
  cases e : H p with
  | none => rfl
  | some o => rw [ap_get ap e ne] at hp; cases hp
def spHall (K : PySem.W.Frag) : Sp := fun vs H Q _ => ∃ (b : Addr) (k n : Nat), vs = [.ref b, .int (k : Nat)] ∧ k ≤ 12 ∧ BoxAt H b (n + 2 * k) ∧
  ∀ (p : Addr) (m : Nat → Nat) (G : Hp), (∀ i, m i ≤ 24) → Ap b H G → BoxAt G b n → H p = none → G p = some (.tup (rowV (2 * k) m)) → Q (.ref p) G
def Opn (I : List (Nat × Nat)) (i : Nat) : Prop := ∃ e ∈ I, e.1 ≤ i ∧ i < e.2
def Dj (e f : Nat × Nat) : Prop := e.2 ≤ f.1 ∨ f.2 ≤ e.1
structure HI (N : Nat) (m : Nat → Nat) (I : List (Nat × Nat)) : Prop where
  bd : ∀ e ∈ I, e.1 ≤ e.2 ∧ e.2 ≤ N
  dj : I.Pairwise Dj
  pr : ∀ i, i < N → ¬ Opn I i → m i < N ∧ m i ≠ i ∧ m (m i) = i ∧ ¬ Opn I (m i)
  ns : ∀ i, i < N → ¬ Opn I i → i < m i → ∀ e ∈ I, e.2 ≤ i ∨ (i < e.1 ∧ e.2 ≤ m i) ∨ m i < e.1
  nc : ∀ p t, p < N → t < N → ¬ Opn I p → ¬ Opn I t → p < t → t < m p → m p < m t → False
theorem opn_app {I J : List (Nat × Nat)} {i : Nat} : Opn (I ++ J) i ↔ Opn I i ∨ Opn J i := by
  constructor
  · rintro ⟨e, he, h⟩
    rcases List.mem_append.mp he with z | z
    · exact .inl ⟨e, z, h⟩
    · exact .inr ⟨e, z, h⟩
  · rintro (⟨e, he, h⟩ | ⟨e, he, h⟩)
    · exact ⟨e, List.mem_append.mpr (.inl he), h⟩
    · exact ⟨e, List.mem_append.mpr (.inr he), h⟩
theorem opn_one {a b i : Nat} : Opn [(a, b)] i ↔ a ≤ i ∧ i < b := by
  constructor
  · rintro ⟨e, he, h⟩
    have : e = (a, b) := by simpa using he
    subst this; exact h
  · intro h; exact ⟨_, List.mem_singleton.mpr rfl, h⟩
theorem opn_two {a b c d i : Nat} : Opn [(a, b), (c, d)] i ↔ (a ≤ i ∧ i < b) ∨ (c ≤ i ∧ i < d) := by
  rw [show ([(a, b), (c, d)] : List (Nat × Nat)) = [(a, b)] ++ [(c, d)] from rfl, opn_app, opn_one, opn_one]
theorem hi_zero (N : Nat) : HI N (fun _ => 0) [(0, N)] where
  bd := fun e he => by
    have : e = (0, N) := by simpa using he
    subst this; exact ⟨Nat.zero_le _, Nat.le_refl _⟩
  dj := List.pairwise_singleton _ _
  pr := fun i hi h => absurd (opn_one.mpr ⟨Nat.zero_le _, hi⟩) h
  ns := fun i hi h => absurd (opn_one.mpr ⟨Nat.zero_le _, hi⟩) h
  nc := fun p t hp _ h => absurd (opn_one.mpr ⟨Nat.zero_le _, hp⟩) h
theorem hi_drop {N : Nat} {m : Nat → Nat} {I : List (Nat × Nat)} {lo hi : Nat} (h : HI N m (I ++ [(lo, hi)])) (le : ¬ lo < hi) : HI N m I := by
  have op : ∀ i, Opn (I ++ [(lo, hi)]) i ↔ Opn I i := fun i => by
    rw [opn_app, opn_one]
    exact ⟨fun z => z.elim id fun z => by omega, .inl⟩
  refine ⟨fun e he => h.bd e (by simp [he]), (List.pairwise_append.mp h.dj).1, fun i hi o => ?_, fun i hi o l e he => h.ns i hi (fun z => o ((op i).mp z)) l e (by simp [he]), fun p t hp ht o1 o2 => h.nc p t hp ht (fun z => o1 ((op p).mp z)) (fun z => o2 ((op t).mp z))⟩
  obtain ⟨a, b, c, d⟩ := h.pr i hi (fun z => o ((op i).mp z))
  exact ⟨a, b, c, fun z => d ((op _).mpr z)⟩
theorem hi_end {N : Nat} {m : Nat → Nat} (h : HI N m []) : Prd N m ∧ ¬ Crs N m := by
  have no : ∀ i, ¬ Opn [] i := fun i ⟨e, he, _⟩ => by cases he
  refine ⟨fun i hi => ?_, fun ⟨p, t, h1, h2, h3, h4, h5⟩ => h.nc p t (by omega) h5 (no p) (no t) h1 h2 h3⟩
  obtain ⟨a, b, c, _⟩ := h.pr i hi (no i)
  exact ⟨a, b, c⟩
def arm (m : Nat → Nat) (lo mt : Nat) : Nat → Nat := fun i => if i = mt then lo else if i = lo then mt else m i
theorem hi_step {N : Nat} {m : Nat → Nat} {I : List (Nat × Nat)} {lo hi mt : Nat} (h : HI N m (I ++ [(lo, hi)])) (l1 : lo < mt) (l2 : mt < hi) : HI N (arm m lo mt) (I ++ [(lo + 1, mt), (mt + 1, hi)]) := by
  obtain ⟨dI, _, dL⟩ := List.pairwise_append.mp h.dj
  have dl : ∀ e ∈ I, e.2 ≤ lo ∨ hi ≤ e.1 := fun e he => dL e he (lo, hi) (by simp)
  have hb := h.bd (lo, hi) (by simp)
  dsimp only at hb
  have am : arm m lo mt mt = lo := if_pos rfl
  have al : arm m lo mt lo = mt := by unfold arm; rw [if_neg (by omega), if_pos rfl]
  have ao : ∀ i, i ≠ lo → i ≠ mt → arm m lo mt i = m i := fun i a b => by unfold arm; rw [if_neg b, if_neg a]
  have oI : ∀ i, lo ≤ i → i < hi → ¬ Opn I i := fun i a b ⟨e, he, z1, z2⟩ => by
    rcases dl e he with q | q <;> omega
  -- what is closed now: what was closed, and the two
  have op : ∀ i, ¬ Opn (I ++ [(lo + 1, mt), (mt + 1, hi)]) i ↔ (i = lo ∨ i = mt ∨ ¬ Opn (I ++ [(lo, hi)]) i) := fun i => by
    rw [opn_app, opn_two, opn_app, opn_one]
    constructor
    · intro z
      by_cases e1 : i = lo
      · exact .inl e1
      by_cases e2 : i = mt
      · exact .inr (.inl e2)
      refine .inr (.inr fun y => z ?_)
      rcases y with y | y
      · exact .inl y
      · refine .inr ?_
        by_cases c : i < mt
        · exact .inl ⟨by omega, c⟩
        · exact .inr ⟨by omega, y.2⟩
    · rintro (rfl | rfl | z)
      · rintro (y | y | y)
        · exact oI _ (Nat.le_refl _) (by omega) y
        · omega
        · omega
      · rintro (y | y | y)
        · exact oI _ (by omega) l2 y
        · omega
        · omega
      · intro y
        refine z ?_
        rcases y with y | y | y
        · exact .inl y
        · exact .inr ⟨by omega, by omega⟩
        · exact .inr ⟨by omega, by omega⟩
  have ol : ∀ {i}, ¬ Opn (I ++ [(lo, hi)]) i → i < lo ∨ hi ≤ i := fun {i} z => by
    by_cases c : i < lo
    · exact .inl c
    · refine .inr ?_
      by_cases c2 : i < hi
      · exact absurd (opn_app.mpr (.inr (opn_one.mpr ⟨by omega, c2⟩))) z
      · omega
  have clo : ¬ Opn (I ++ [(lo + 1, mt), (mt + 1, hi)]) lo := (op lo).mpr (.inl rfl)
  have cmt : ¬ Opn (I ++ [(lo + 1, mt), (mt + 1, hi)]) mt := (op mt).mpr (.inr (.inl rfl))
  refine ⟨fun e he => ?_, ?_, fun i hi' o => ?_, fun i hi' o l e he => ?_, fun p t hp ht o1 o2 a1 a2 a3 => ?_⟩
  · rcases List.mem_append.mp he with z | z
    · exact h.bd e (by simp [z])
    · have z' : e = (lo + 1, mt) ∨ e = (mt + 1, hi) := by simpa using z
      rcases z' with rfl | rfl
      · exact ⟨by show lo + 1 ≤ mt; omega, by show mt ≤ N; omega⟩
      · exact ⟨by show mt + 1 ≤ hi; omega, hb.2⟩
  · refine List.pairwise_append.mpr ⟨dI, ?_, fun e he f hf => ?_⟩
    · refine List.pairwise_cons.mpr ⟨fun f hf => ?_, List.pairwise_singleton _ _⟩
      have : f = (mt + 1, hi) := by simpa using hf
      subst this
      exact .inl (by show mt ≤ mt + 1; omega)
    · have z' : f = (lo + 1, mt) ∨ f = (mt + 1, hi) := by simpa using hf
      rcases z' with rfl | rfl
      · rcases dl e he with q | q
        · exact .inl (by show e.2 ≤ lo + 1; omega)
        · exact .inr (by show mt ≤ e.1; omega)
      · rcases dl e he with q | q
        · exact .inl (by show e.2 ≤ mt + 1; omega)
        · exact .inr (by show hi ≤ e.1; omega)
  · rcases (op i).mp o with rfl | rfl | z
    · rw [al]; exact ⟨by omega, by omega, am, cmt⟩
    · rw [am]; exact ⟨by omega, by omega, al, clo⟩
    · obtain ⟨q1, q2, q3, q4⟩ := h.pr i hi' z
      have n1 := ol z
      have n2 := ol q4
      rw [ao i (by omega) (by omega), ao (m i) (by omega) (by omega)]
      exact ⟨q1, q2, q3, (op _).mpr (.inr (.inr q4))⟩
  · have new : ∀ e ∈ I ++ [(lo + 1, mt), (mt + 1, hi)], e.2 ≤ lo ∨ (lo < e.1 ∧ e.2 ≤ mt) ∨ mt < e.1 := fun e he => by
      rcases List.mem_append.mp he with z | z
      · rcases dl e z with q | q
        · exact .inl q
        · exact .inr (.inr (by omega))
      · have z' : e = (lo + 1, mt) ∨ e = (mt + 1, hi) := by simpa using z
        rcases z' with rfl | rfl
        · exact .inr (.inl ⟨by show lo < lo + 1; omega, Nat.le_refl _⟩)
        · exact .inr (.inr (by show mt < mt + 1; omega))
    rcases (op i).mp o with rfl | rfl | z
    · rw [al]; exact new e he
    · rw [am] at l; omega
    · have n1 := ol z
      rw [ao i (by omega) (by omega)] at l ⊢
      rcases List.mem_append.mp he with y | y
      · exact h.ns i hi' z l e (by simp [y])
      · have k := h.ns i hi' z l (lo, hi) (by simp)
        dsimp only at k
        have z' : e = (lo + 1, mt) ∨ e = (mt + 1, hi) := by simpa using y
        rcases z' with rfl | rfl
        · show mt ≤ i ∨ (i < lo + 1 ∧ mt ≤ m i) ∨ m i < lo + 1
          omega
        · show hi ≤ i ∨ (i < mt + 1 ∧ hi ≤ m i) ∨ m i < mt + 1
          omega
  · -- no two arms cross
    have old : ∀ {i}, ¬ Opn (I ++ [(lo, hi)]) i → i < N → i < m i → hi ≤ i ∨ (i < lo ∧ hi ≤ m i) ∨ m i < lo := fun {i} z hN l => h.ns i hN z l (lo, hi) (by simp)
    have ar : ∀ {i}, ¬ Opn (I ++ [(lo, hi)]) i → arm m lo mt i = m i := fun {i} z => by have := ol z; exact ao i (by omega) (by omega)
    rcases (op p).mp o1 with rfl | rfl | zp
    · rw [al] at a2 a3
      rcases (op t).mp o2 with rfl | rfl | zt
      · omega
      · omega
      · have := ol zt; omega
    · rw [am] at a2; omega
    · rw [ar zp] at a2 a3
      rcases (op t).mp o2 with rfl | rfl | zt
      · rw [al] at a3
        have := old zp hp (by omega); omega
      · rw [am] at a3; omega
      · rw [ar zt] at a3
        exact h.nc p t hp ht zp zt a1 a2 a3
theorem arm_set {ns : List Nat} {lo mt : Nat} (h1 : lo < ns.length) (h2 : mt < ns.length) : (fun i => ((ns.set lo mt).set mt lo).getD i 0) = arm (fun i => ns.getD i 0) lo mt := by
  funext i
  show ((ns.set lo mt).set mt lo).getD i 0 = if i = mt then lo else if i = lo then mt else ns.getD i 0
  simp only [List.getD_eq_getElem?_getD, List.getElem?_set, List.length_set]
  by_cases c1 : i = mt
  · subst c1; simp [h2]
  · have c1' : ¬ mt = i := fun z => c1 z.symm
    by_cases c2 : i = lo
    · subst c2; simp [h1, c1, c1']
    · have c2' : ¬ lo = i := fun z => c2 z.symm
      simp [c1, c1', c2, c2']
def spHallS (K : PySem.W.Frag) : Sp := fun vs H Q _ => ∃ (b : Addr) (k n : Nat), vs = [.ref b, .int (k : Nat)] ∧ k ≤ 12 ∧ BoxAt H b (n + 2 * k) ∧
  ∀ (p : Addr) (m : Nat → Nat) (G : Hp), Prd (2 * k) m → ¬ Crs (2 * k) m → Ap b H G → BoxAt G b n → H p = none → G p = some (.tup (rowV (2 * k) m)) → Q (.ref p) G
structure Sm (k c : Nat) (d : PyData) : Prop where
  sh : d.canLay0 = true
  sw : d.showable = true
  nd : d.hasDict = false
  dp : d.depth ≤ k
  ln : d.shown.length ≤ c
theorem Sm.mono {k c k' c' : Nat} {d : PyData} (h : Sm k c d) (hk : k ≤ k') (hc : c ≤ c') : Sm k' c' d := ⟨h.sh, h.sw, h.nd, Nat.le_trans h.dp hk, Nat.le_trans h.ln hc⟩
theorem sm_none : Sm 0 50 .none := ⟨rfl, rfl, rfl, Nat.le_refl _, by show (Str.ofString "None").length ≤ 50; rw [PySem.ofString_length]; decide⟩
theorem sm_bool (b : Bool) : Sm 0 50 (.bool b) := by
  refine ⟨rfl, rfl, rfl, Nat.le_refl _, ?_⟩
  cases b
  · show (Str.ofString "False").length ≤ 50; rw [PySem.ofString_length]; decide
  · show (Str.ofString "True").length ≤ 50; rw [PySem.ofString_length]; decide
theorem sm_int {i : Int} (h : i.natAbs < 10 ^ 40) : Sm 0 50 (.int i) := by
  refine ⟨rfl, ?_, rfl, Nat.le_refl _, ?_⟩
  · refine decide_eq_true ?_
    by_cases h0 : i.natAbs = 0
    · rw [h0]; decide
    · exact (Nat.log2_lt h0).mpr (Nat.lt_of_lt_of_le h (Nat.le_trans (by decide : 10 ^ 40 ≤ 2 ^ 200) (Nat.pow_le_pow_right (by decide) (by decide))))
  · show (Str.ofString (toString i)).length ≤ 50
    rw [PySem.ofString_length]
    exact Nat.le_trans (int_text_length_le10 (k := 40) (by decide) h) (by decide)
theorem str_app (x y : Str) : (x ++ y).length = x.length + y.length := by
  first
    | exact Str.length_append x y
    | (show (x.cps ++ y.cps).size = _; simp [Str.length])
theorem textFrom_le {c : Nat} : ∀ (ts : List Str) (k : Nat) (acc : Str), (∀ t ∈ ts, t.length ≤ c) → (textFrom k acc ts).length ≤ acc.length + (c + 2) * ts.length
  | [], k, acc, _ => by show acc.length ≤ acc.length + _; omega
  | t :: ts, k, acc, h => by
    have ih := textFrom_le ts (k + 1) (acc ++ (if k > 0 then ", " else "" : String) ++ t) fun x hx => h x (by simp [hx])
    show (textFrom (k + 1) (acc ++ (if k > 0 then ", " else "" : String) ++ t) ts).length ≤ _
    have e : (acc ++ (if k > 0 then ", " else "" : String) ++ t).length ≤ acc.length + 2 + c := by
      rw [str_app, str_app]
      have h1 := h t (by simp)
      have h2 : (Str.ofString (if k > 0 then ", " else "" : String)).length ≤ 2 := by
        rw [PySem.ofString_length]; split <;> decide
      have h2' : ((if k > 0 then ", " else "" : String) : Str).length ≤ 2 := h2
      omega
    rw [List.length_cons, Nat.mul_add]
    omega
theorem join_le {c : Nat} : ∀ ts : List Str, (∀ t ∈ ts, t.length ≤ c) → (Str.join ", " ts).length ≤ (c + 2) * ts.length
  | [], _ => by show (Str.join ", " []).length ≤ _; exact Nat.zero_le _
  | [x], h => by
    show x.length ≤ (c + 2) * 1
    have := h x (by simp); omega
  | x :: y :: r, h => by
    have ih := join_le (y :: r) fun t ht => h t (by simp at ht ⊢; exact .inr ht)
    show (x ++ ", " ++ Str.join ", " (y :: r)).length ≤ _
    rw [str_app, str_app]
    have h1 := h x (by simp)
    have h2 : ((", " : String) : Str).length = 2 := by show (Str.ofString ", ").length = 2; rw [PySem.ofString_length]; decide
    rw [List.length_cons, Nat.mul_add]
    omega
theorem shownAll_mem {c : Nat} : ∀ {ds : List PyData}, (∀ d ∈ ds, d.shown.length ≤ c) → (∀ t ∈ PyData.shownAll ds, t.length ≤ c) ∧ (PyData.shownAll ds).length = ds.length
  | [], _ => ⟨(fun _ h => nomatch h), rfl⟩
  | d :: ds, h => by
    obtain ⟨a, b⟩ := shownAll_mem (ds := ds) fun e he => h e (by simp [he])
    refine ⟨fun t ht => ?_, by show (PyData.shownAll ds).length + 1 = _; rw [b]; rfl⟩
    have ht' : t = d.shown ∨ t ∈ PyData.shownAll ds := by
      have z : t ∈ d.shown :: PyData.shownAll ds := ht
      simpa using z
    rcases ht' with rfl | z
    · exact h d (by simp)
    · exact a t z
theorem sm_all {k c : Nat} : ∀ {ds : List PyData}, (∀ d ∈ ds, Sm k c d) → PyData.canLayAll0 ds = true ∧ PyData.showableAll ds = true ∧ PyData.hasDictAll ds = false ∧ PyData.depthAll ds ≤ k
  | [], _ => ⟨rfl, rfl, rfl, Nat.zero_le _⟩
  | d :: ds, h => by
    obtain ⟨a1, a2, a3, a4⟩ := sm_all (ds := ds) fun e he => h e (by simp [he])
    have b := h d (by simp)
    refine ⟨?_, ?_, ?_, Nat.max_le.mpr ⟨b.dp, a4⟩⟩
    · show (d.canLay0 && PyData.canLayAll0 ds) = true; rw [b.sh, a1]; rfl
    · show (d.showable && PyData.showableAll ds) = true; rw [b.sw, a2]; rfl
    · show (d.hasDict || PyData.hasDictAll ds) = false; rw [b.nd, a3]; rfl
theorem sm_tuple {k c n : Nat} {ds : List PyData} (h : ∀ d ∈ ds, Sm k c d) (hn : ds.length ≤ n) : Sm (k + 1) ((c + 2) * n + 4) (.tuple ds) := by
  obtain ⟨a1, a2, a3, a4⟩ := sm_all h
  obtain ⟨b1, b2⟩ := shownAll_mem fun d hd => (h d hd).ln
  refine ⟨a1, a2, a3, Nat.succ_le_succ a4, ?_⟩
  show (tupleText (PyData.shownAll ds)).length ≤ _
  unfold tupleText
  rw [str_app, str_app]
  have j := join_le _ b1
  rw [b2] at j
  have h2 : ((if (PyData.shownAll ds).length == 1 then ",)" else ")" : String) : Str).length ≤ 2 := by
    show (Str.ofString _).length ≤ 2
    rw [PySem.ofString_length]; split <;> decide
  have h3 : (("(" : String) : Str).length = 1 := by show (Str.ofString "(").length = 1; rw [PySem.ofString_length]; decide
  have h4 : (c + 2) * ds.length ≤ (c + 2) * n := Nat.mul_le_mul_left _ hn
  omega
theorem sm_list {k c n : Nat} {ds : List PyData} (h : ∀ d ∈ ds, Sm k c d) (hn : ds.length ≤ n) : Sm (k + 1) ((c + 2) * n + 4) (.list ds) := by
  obtain ⟨a1, a2, a3, a4⟩ := sm_all h
  obtain ⟨b1, b2⟩ := shownAll_mem fun d hd => (h d hd).ln
  refine ⟨a1, a2, a3, Nat.succ_le_succ a4, ?_⟩
  show (listText (PyData.shownAll ds)).length ≤ _
  unfold listText
  rw [str_app]
  have j := textFrom_le _ 0 "[" b1
  rw [b2] at j
  have h2 : (("]" : String) : Str).length = 1 := by show (Str.ofString "]").length = 1; rw [PySem.ofString_length]; decide
  have h3 : (("[" : String) : Str).length = 1 := by show (Str.ofString "[").length = 1; rw [PySem.ofString_length]; decide
  have h4 : (c + 2) * ds.length ≤ (c + 2) * n := Nat.mul_le_mul_left _ hn
  omega
theorem cps_small (s : String) : ∀ c ∈ (Str.ofString s).cps.toList, c < 0x110000 := by
  rw [Str.ofString_eq_toList]
  intro c hc
  have z : c ∈ s.toList.map Char.toNat := by simpa using hc
  obtain ⟨ch, _, rfl⟩ := List.mem_map.mp z
  have v := ch.valid
  have e : ch.toNat = ch.val.toNat := rfl
  rw [e]
  have : ch.val.toNat < 0x110000 := by
    rcases v with h | ⟨_, h⟩
    · exact Nat.lt_trans h (by decide)
    · exact h
  exact this
theorem strOk_ofString (s : String) : PyData.canLay0 (.str (Str.ofString s)) = true := by
  show ((Str.ofString s).cps.all (· < 0x110000)) = true
  rw [← Array.all_toList, List.all_eq_true]
  intro c hc
  exact decide_eq_true (cps_small s c hc)
theorem sm_str {s : String} (h : s.length ≤ 100) : Sm 0 1100 (.str (Str.ofString s)) := by
  refine ⟨strOk_ofString s, rfl, rfl, Nat.le_refl _, ?_⟩
  show (reprText (Str.ofString s)).length ≤ 1100
  have z := StrLaws.reprText_len (Str.ofString s) (fun c hc => Nat.lt_trans (cps_small s c hc) (by decide))
  rw [PySem.ofString_length] at z
  omega
def spSeated (K : PySem.W.Frag) : Sp := fun vs H Q _ => ∃ (a : Addr) (n : Nat) (L : List Iv), vs = [.int (n : Nat), .ref a] ∧ n ≤ 24 ∧ SqL K H a (L.map fun e => V.ref e.1) ∧ (∀ e ∈ L, H e.1 = some (.tup [.int (e.2.1 : Nat), .int (e.2.2 : Nat)]) ∧ e.2.1 < n ∧ e.2.2 < n) ∧
  ∀ (p : Addr) (m : Nat → Nat) (G : Hp), (∀ i, m i ≤ 24) → Same H G → G p = some (.tup (rowV n m)) → Q (.ref p) G
theorem row_of {ns : List Nat} (h : ∀ i ∈ ns, i ≤ 24) (i : Nat) : ns.getD i 0 ≤ 24 := by
  by_cases hi : i < ns.length
  · rw [List.getD_eq_getElem?_getD, List.getElem?_eq_getElem hi]; exact h _ (List.getElem_mem hi)
  · rw [List.getD_eq_getElem?_getD, List.getElem?_eq_none (by omega)]; exact Nat.zero_le _
structure Fine (d : PyData) : Prop where
  sm : Sm 4 1000000 d
  tp : ∀ ds, d = .tuple ds → ds.length ≤ 60
theorem fine_small {k c : Nat} {d : PyData} (h : Sm k c d) (hk : k ≤ 1) (hc : c ≤ 2000) (tp : ∀ ds, d = .tuple ds → ds.length ≤ 60) : Fine d := ⟨h.mono (by omega) (by omega), tp⟩
theorem sm0 {d : PyData} (h : Sm 0 50 d) : Sm 1 2000 d := h.mono (by decide) (by decide)
theorem odd_ok {K : PySem.W.Frag} {G : Hp} {p1 p2 p3 p4 p5 p6 : Addr} (h1 : G p1 = some (.tup [])) (h2 : G p2 = some (.lst [])) (h3 : G p3 = some (.tup [.int 0])) (h4 : G p4 = some (.lst [.int 0])) (h5 : G p5 = some (.tup [.int 1, .int 0])) (h6 : G p6 = some (.tup [.int 0, .int 1])) :
    ∀ x ∈ [V.non, .bl true, .bl false, .int (-1), .int 0, .int 1, .str "", .str "arm", .ref p1, .ref p2, .ref p3, .ref p4, .ref p5, .ref p6, .int (10 ^ (30 : Int).toNat)], ∃ d, Dp K G x d ∧ Sm 1 2000 d ∧ ∀ ds, d = .tuple ds → ds.length ≤ 60 := by
  intro x hx
  have z0 : Sm 0 50 (.int 0) := sm_int (by decide)
  have z1 : Sm 0 50 (.int 1) := sm_int (by decide)
  simp only [List.mem_cons, List.mem_nil_iff, or_false] at hx
  rcases hx with rfl | rfl | rfl | rfl | rfl | rfl | rfl | rfl | rfl | rfl | rfl | rfl | rfl | rfl | rfl
  · exact ⟨_, .non, sm0 sm_none, fun _ z => nomatch z⟩
  · exact ⟨_, .bl _, sm0 (sm_bool _), fun _ z => nomatch z⟩
  · exact ⟨_, .bl _, sm0 (sm_bool _), fun _ z => nomatch z⟩
  · exact ⟨_, .int _, sm0 (sm_int (by decide)), fun _ z => nomatch z⟩
  · exact ⟨_, .int _, sm0 z0, fun _ z => nomatch z⟩
  · exact ⟨_, .int _, sm0 z1, fun _ z => nomatch z⟩
  · exact ⟨_, .str _, (sm_str (s := "") (by decide)).mono (by decide) (by decide), fun _ z => nomatch z⟩
  · exact ⟨_, .str _, (sm_str (s := "arm") (by decide)).mono (by decide) (by decide), fun _ z => nomatch z⟩
  · exact ⟨.tuple [], .tup (SqT.of h1) .nil, (sm_tuple (k := 0) (c := 50) (n := 2) (fun d hd => by simp at hd) (by decide)).mono (by decide) (by decide), fun ds z => by cases z; decide⟩
  · exact ⟨.list [], .lst (SqL.of h2) .nil, (sm_list (k := 0) (c := 50) (n := 2) (fun d hd => by simp at hd) (by decide)).mono (by decide) (by decide), fun _ z => nomatch z⟩
  · exact ⟨.tuple [.int 0], .tup (SqT.of h3) (.cons (.int _) .nil), (sm_tuple (k := 0) (c := 50) (n := 2) (fun d hd => by simp at hd; rw [hd]; exact z0) (by decide)).mono (by decide) (by decide), fun ds z => by cases z; decide⟩
  · exact ⟨.list [.int 0], .lst (SqL.of h4) (.cons (.int _) .nil), (sm_list (k := 0) (c := 50) (n := 2) (fun d hd => by simp at hd; rw [hd]; exact z0) (by decide)).mono (by decide) (by decide), fun _ z => nomatch z⟩
  · exact ⟨.tuple [.int 1, .int 0], .tup (SqT.of h5) (.cons (.int _) (.cons (.int _) .nil)), (sm_tuple (k := 0) (c := 50) (n := 2) (fun d hd => by simp at hd; rcases hd with rfl | rfl; exact z1; exact z0) (by decide)).mono (by decide) (by decide), fun ds z => by cases z; decide⟩
  · exact ⟨.tuple [.int 0, .int 1], .tup (SqT.of h6) (.cons (.int _) (.cons (.int _) .nil)), (sm_tuple (k := 0) (c := 50) (n := 2) (fun d hd => by simp at hd; rcases hd with rfl | rfl; exact z0; exact z1) (by decide)).mono (by decide) (by decide), fun ds z => by cases z; decide⟩
  · exact ⟨_, .int _, sm0 (sm_int (by decide)), fun _ z => nomatch z⟩
theorem and_split {c : Bool} {A : Prop} {Q : Bool → Hp → Prop} {G : Hp} (h1 : c = true → A) (h2 : Q false G) : if c = true then A else Q false G := by
  cases c with
  | true => exact iteT (h1 rfl)
  | false => exact iteF h2
def spBent0 (K : PySem.W.Frag) : Sp := fun vs H Q _ => ∃ (b : Addr) (v : Nat) (n : Nat), vs = [.ref b, .int (v : Nat)] ∧ v ≤ 24 ∧ BoxAt H b (n + 2) ∧ ∀ x d G, Dp K (nw H G) x d → Sm 1 2000 d → Ap b H G → BoxAt G b n → Q x G
theorem dp_nat {K : PySem.W.Frag} {H : Hp} : ∀ ns : List Nat, DpAll K H (natV ns) (ns.map fun i => PyData.int (i : Nat))
  | [] => .nil
  | n :: ns => .cons (.int _) (dp_nat ns)
theorem row_nat (c : Nat) (m : Nat → Nat) : rowV c m = natV ((List.range c).map m) := by
  unfold rowV natV; rw [List.map_map]; rfl
theorem sm_nats {ns : List Nat} (h : ∀ i ∈ ns, i ≤ 24) : ∀ d ∈ ns.map (fun i => PyData.int (i : Nat)), Sm 1 2000 d := by
  intro d hd
  obtain ⟨i, hi, rfl⟩ := List.mem_map.mp hd
  exact sm0 (sm_int (Nat.lt_of_le_of_lt (show ((i : Int)).natAbs ≤ 24 by have := h i hi; omega) (by decide)))
theorem natV_erase : ∀ (ns : List Nat) (k : Nat), (natV ns).eraseIdx k = natV (ns.eraseIdx k)
  | [], _ => rfl
  | _ :: _, 0 => rfl
  | x :: ns, k + 1 => by show V.int x :: (natV ns).eraseIdx k = V.int x :: natV (ns.eraseIdx k); rw [natV_erase ns k]
theorem mem_erase : ∀ {ns : List Nat} {k i : Nat}, i ∈ ns.eraseIdx k → i ∈ ns
  | [], _, _, h => by simp at h
  | x :: ns, 0, i, h => List.mem_cons_of_mem x h
  | x :: ns, k + 1, i, h => by
    have h' : i = x ∨ i ∈ ns.eraseIdx k := by simpa using h
    rcases h' with rfl | h'
    · simp
    · exact List.mem_cons_of_mem _ (mem_erase h')
theorem dpAll_set {K : PySem.W.Frag} {H : Hp} {x : V} {d : PyData} (hx : Dp K H x d) : ∀ {xs : List V} {ds : List PyData} (k : Nat), DpAll K H xs ds → DpAll K H (xs.set k x) (ds.set k d)
  | _, [], _, h => by cases h; exact .nil
  | _, _ :: _, 0, h => by cases h with | cons a b => exact .cons hx b
  | _, _ :: _, k + 1, h => by cases h with | cons a b => exact .cons a (dpAll_set hx k b)
def spBent (K : PySem.W.Frag) : Sp := fun vs H Q _ => ∃ (b a : Addr) (c : Nat) (m : Nat → Nat) (n : Nat), vs = [.ref b, .ref a] ∧ SqT K (hid H b) a (rowV c m) ∧ c ≤ 24 ∧ (∀ i, m i ≤ 24) ∧ BoxAt H b (n + 4) ∧ ∀ x d G, Dp K (nw H G) x d → Fine d → Ap b H G → BoxAt G b n → Q x G
theorem rg_nat (k : Nat) : rgV 0 (k : Int) = ((List.range k).map fun i => ((i : Nat) : Int)).map V.int := by
  unfold rgV
  rw [show ((k : Int) - 0).toNat = k by omega, List.map_map]
  apply List.map_congr_left
  intro i _
  show V.int (0 + (i : Int)) = V.int (i : Int)
  rw [Int.zero_add]
theorem cutV_two (xs : List V) (k : Nat) (h : 2 * k + 2 ≤ xs.length) : cutV xs (some ((2 : Int) * (k : Int))) (some ((2 : Int) * (k : Int) + 2)) = [xs[2 * k]'(by omega), xs[2 * k + 1]'(by omega)] := by
  unfold cutV
  have e1 : (2 : Int) * (k : Int) = ((2 * k : Nat) : Int) := by omega
  have e2 : (2 : Int) * (k : Int) + 2 = ((2 * k + 2 : Nat) : Int) := by omega
  rw [e2, e1, HT.sIx_nat, HT.sIx_nat, show min (2 * k) xs.length = 2 * k by omega, show min (2 * k + 2) xs.length = 2 * k + 2 by omega]
  rw [show 2 * k + 2 - 2 * k = 2 by omega, List.drop_eq_getElem_cons (by omega), List.drop_eq_getElem_cons (by omega)]
  rfl
theorem sqT_up {G : Hp} {t p : Addr} {xs ys zs : List V} (h : SqT K G t xs) (hp : G p = some (.lst ys)) : SqT K (upd G p (.lst zs)) t xs := by
  rcases h with (h | ⟨o, h⟩) | h
  · exact .inl (.inl (tup_up h hp))
  · exact .inl (.inr ⟨o, by rw [upd_ne (ne_of h hp (by intro z; cases z))]; exact h⟩)
  · exact .inr h
theorem sqT_hid {G : Hp} {t b : Addr} {xs ys : List V} (h : SqT K G t xs) (hb : G b = some (.lst ys)) : SqT K (hid G b) t xs := by
  rcases h with (h | ⟨o, h⟩) | h
  · exact .inl (.inl (by rw [hid_ne (ne_of h hb (by intro z; cases z))]; exact h))
  · exact .inl (.inr ⟨o, by rw [hid_ne (ne_of h hb (by intro z; cases z))]; exact h⟩)
  · exact .inr h
theorem pairs_map {G G' : Hp} (f : ∀ t xs, SqT K G t xs → SqT K G' t xs) : ∀ {L : List (Nat × Nat)} {ys : List V}, DpAll K G ys (L.map pairD) → DpAll K G' ys (L.map pairD)
  | [], _, h => by cases h; exact .nil
  | p :: L, _, h => by
    cases h with
    | cons a r =>
      obtain ⟨t, rfl, ht⟩ := dp_pair a
      exact .cons (.tup (f _ _ ht) (.cons (.int _) (.cons (.int _) .nil))) (pairs_map f r)
theorem hid_drop {G : Hp} {b M : Addr} {o : HO} (h : G M = none) : Same (hid G b) (hid (hid (upd G M o) b) M) := fun a z e => by
  have nb : a ≠ b := fun y => by rw [y, hid_at] at e; cases e
  rw [hid_ne nb] at e
  have nM : a ≠ M := fun y => by rw [y, h] at e; cases e
  rw [hid_ne nM, hid_ne nb, upd_ne nM]; exact e
theorem lay_mem : ∀ {ds : List PyData}, PyData.canLayAll0 ds = true → ∀ e ∈ ds, e.canLay0 = true
  | [], _, _, h => nomatch h
  | d :: ds, h, e, he => by
    have h' : (d.canLay0 && PyData.canLayAll0 ds) = true := h
    obtain ⟨h1, h2⟩ := Bool.and_eq_true_iff.mp h'
    rcases List.mem_cons.mp he with rfl | he
    · exact h1
    · exact lay_mem h2 e he
theorem dep_mem : ∀ {ds : List PyData} {e : PyData}, e ∈ ds → e.depth ≤ PyData.depthAll ds
  | d :: ds, e, he => by
    rcases List.mem_cons.mp he with rfl | he
    · exact Nat.le_max_left _ _
    · exact Nat.le_trans (dep_mem he) (Nat.le_max_right _ _)
theorem fine_tup {d : PyData} (h : Fine d) : ∀ ds, d = .tuple ds → (∀ e ∈ ds, SeqAt.shaped e = true) ∧ ds.length ≤ 1000 := by
  rintro ds rfl
  refine ⟨fun e he => ?_, Nat.le_trans (h.tp ds rfl) (by decide)⟩
  have h1 := lay_mem (show PyData.canLayAll0 ds = true from h.sm.sh) e he
  have h2 := dep_mem he
  have h3 : PyData.depthAll ds + 1 ≤ 4 := h.sm.dp
  show (e.canLay0 && decide (e.depth ≤ 64)) = true
  rw [h1, decide_eq_true (by omega)]; rfl
def smV (v : V) : Prop := ∃ d, (∀ (K : PySem.W.Frag) (G : Hp), Dp K G v d) ∧ Sm 0 1100 d
theorem smv_int {i : Int} (h : i.natAbs < 10 ^ 40) : smV (.int i) := ⟨.int i, fun _ _ => .int i, (sm_int h).mono (Nat.le_refl _) (by decide)⟩
theorem smv_nat {i : Nat} (h : i ≤ 1000) : smV (.int (i : Nat)) := smv_int (Nat.lt_of_le_of_lt (show ((i : Int)).natAbs ≤ 1000 by omega) (by decide))
theorem smv_bl (b : Bool) : smV (.bl b) := ⟨.bool b, fun _ _ => .bl b, (sm_bool b).mono (Nat.le_refl _) (by decide)⟩
theorem smv_non : smV .non := ⟨.none, fun _ _ => .non, sm_none.mono (Nat.le_refl _) (by decide)⟩
theorem smv_str {s : String} (h : s.length ≤ 100) : smV (.str (Str.ofString s)) := ⟨.str (Str.ofString s), fun _ _ => .str _, sm_str h⟩
theorem smv_nil : ∀ v ∈ ([] : List V), smV v := fun v h => nomatch h
theorem smv_cons {x : V} {xs : List V} (h : smV x) (hs : ∀ v ∈ xs, smV v) : ∀ v ∈ x :: xs, smV v := fun v hv => by
  rcases List.mem_cons.mp hv with rfl | hv
  · exact h
  · exact hs v hv
theorem smv_i {i : Int} (h : i.natAbs ≤ 1000) : smV (.int i) := smv_int (Nat.lt_of_le_of_lt h (by decide))
theorem smv_all {G : Hp} : ∀ {vs : List V}, (∀ v ∈ vs, smV v) → ∃ ds, DpAll K G vs ds ∧ (∀ d ∈ ds, Sm 0 1100 d) ∧ ds.length = vs.length
  | [], _ => ⟨[], .nil, (fun _ h => nomatch h), rfl⟩
  | v :: vs, h => by
    obtain ⟨d, h1, h2⟩ := h v (by simp)
    obtain ⟨ds, k1, k2, k3⟩ := smv_all (vs := vs) fun x hx => h x (by simp [hx])
    refine ⟨d :: ds, .cons (h1 K G) k1, fun e he => ?_, by rw [List.length_cons, List.length_cons, k3]⟩
    rcases List.mem_cons.mp he with rfl | he
    · exact h2
    · exact k2 e he
def MatI (K : PySem.W.Frag) (b : Addr) (G : Hp) (x : V) : Prop := ∃ d, Dp K (hid G b) x d ∧ Fine d
theorem mat_ap {b : Addr} {G J : Hp} {x : V} (h : MatI K b G x) (ap : Ap b G J) : MatI K b J x := by
  obtain ⟨d, h1, h2⟩ := h
  exact ⟨d, same_dp ap h1, h2⟩
theorem mat_val {b : Addr} {G : Hp} {v : V} (h : smV v) (ht : ∀ d, Dp K (hid G b) v d → ∀ ds, d ≠ .tuple ds) : MatI K b G v := by
  obtain ⟨d, h1, h2⟩ := h
  exact ⟨d, h1 K _, h2.mono (by decide) (by decide), fun ds z => absurd z (ht d (h1 K _) ds)⟩
theorem mat_tup {b t : Addr} {G : Hp} {vs : List V} (h : SqT K (hid G b) t vs) (hv : ∀ v ∈ vs, smV v) (hn : vs.length ≤ 50) : MatI K b G (.ref t) := by
  obtain ⟨ds, k1, k2, k3⟩ := smv_all (K := K) (G := hid G b) hv
  exact ⟨.tuple ds, .tup h k1, (sm_tuple k2 (n := 50) (by omega)).mono (by decide) (by decide), fun es z => by cases z; omega⟩
theorem mat_lst {b t : Addr} {G : Hp} {vs : List V} (h : SqL K (hid G b) t vs) (hv : ∀ v ∈ vs, smV v) (hn : vs.length ≤ 50) : MatI K b G (.ref t) := by
  obtain ⟨ds, k1, k2, k3⟩ := smv_all (K := K) (G := hid G b) hv
  exact ⟨.list ds, .lst h k1, (sm_list k2 (n := 50) (by omega)).mono (by decide) (by decide), fun es z => nomatch z⟩
theorem mat_nest {b t a1 a2 : Addr} {G : Hp} {x y : Int} (h : SqT K (hid G b) t [.ref a1, .ref a2]) (h1 : SqT K (hid G b) a1 [.int x]) (h2 : SqT K (hid G b) a2 [.int y]) (hx : x.natAbs ≤ 1000) (hy : y.natAbs ≤ 1000) : MatI K b G (.ref t) := by
  have z : ∀ i : Int, i.natAbs ≤ 1000 → Sm 1 200 (.tuple [.int i]) := fun i hi => (sm_tuple (k := 0) (c := 50) (n := 1) (ds := [.int i]) (fun d hd => by
    have e : d = .int i := by simpa using hd
    rw [e]; exact sm_int (Nat.lt_of_le_of_lt hi (by decide))) (Nat.le_refl 1)).mono (by decide) (by decide)
  refine ⟨.tuple [.tuple [.int x], .tuple [.int y]], .tup h (.cons (.tup h1 (.cons (.int _) .nil)) (.cons (.tup h2 (.cons (.int _) .nil)) .nil)), (sm_tuple (k := 1) (c := 200) (n := 2) (ds := [.tuple [.int x], .tuple [.int y]]) (fun d hd => ?_) (Nat.le_refl 2)).mono (by decide) (by decide), fun es e => by cases e; exact (show 2 ≤ 60 by decide)⟩
  have e : d = .tuple [.int x] ∨ d = .tuple [.int y] := by simpa using hd
  rcases e with rfl | rfl
  · exact z x hx
  · exact z y hy
theorem smv_row {n : Nat} {m : Nat → Nat} (hm : ∀ i, m i ≤ 24) : ∀ v ∈ rowV n m, smV v := by
  intro v hv
  unfold rowV at hv
  obtain ⟨i, _, rfl⟩ := List.mem_map.mp hv
  exact smv_nat (by have := hm i; omega)
theorem cut_mem {xs : List V} {lo hi : Option Int} {v : V} (h : v ∈ cutV xs lo hi) : v ∈ xs := by
  unfold cutV at h
  exact List.mem_of_mem_drop (List.mem_of_mem_take h)
theorem smv_rg {a b : Int} (ha : 0 ≤ a) (hb : b ≤ 100) : ∀ v ∈ rgV a b, smV v := by
  intro v hv
  unfold rgV at hv
  obtain ⟨i, hi, rfl⟩ := List.mem_map.mp hv
  have := List.mem_range.mp hi
  exact smv_int (Nat.lt_of_le_of_lt (show (a + (i : Nat)).natAbs ≤ 100 by omega) (by decide))
theorem mat_pairs {b t : Addr} {G : Hp} {ys : List V} {L : List (Nat × Nat)} (h : SqT K (hid G b) t ys) (hy : DpAll K (hid G b) ys (L.map pairD)) (hl : L.length ≤ 24) (hs : ∀ p ∈ L, p.1 ≤ 1000 ∧ p.2 ≤ 1000) : MatI K b G (.ref t) := by
  refine ⟨.tuple (L.map pairD), .tup h hy, (sm_tuple (k := 1) (c := 108) (n := 24) (fun d hd => ?_) (by rw [List.length_map]; exact hl)).mono (by decide) (by decide), fun es z => by cases z; rw [List.length_map]; omega⟩
  obtain ⟨p, hp, rfl⟩ := List.mem_map.mp hd
  obtain ⟨h1, h2⟩ := hs p hp
  have z : ∀ i : Nat, i ≤ 1000 → Sm 0 50 (.int (i : Nat)) := fun i hi => sm_int (Nat.lt_of_le_of_lt (show ((i : Int)).natAbs ≤ 1000 by omega) (by decide))
  refine (sm_tuple (k := 0) (c := 50) (n := 2) (ds := [.int (p.1 : Nat), .int (p.2 : Nat)]) (fun d hd => ?_) (Nat.le_refl 2)).mono (by decide) (by decide)
  have hd' : d = .int (p.1 : Nat) ∨ d = .int (p.2 : Nat) := by simpa using hd
  rcases hd' with rfl | rfl
  · exact z _ h1
  · exact z _ h2
theorem cr_flip (i j p q : Int) : crI j i p q = crI i j p q := by
  unfold crI
  have e1 : (if i < j then i else j) = (if j < i then j else i) := by split <;> split <;> omega
  have e2 : (if j < i then i else j) = (if i < j then j else i) := by split <;> split <;> omega
  rw [e1, e2]
theorem cr_flip2 (i j p q : Int) : crI i j q p = crI i j p q := by
  unfold crI
  generalize (decide ((if j < i then j else i) < p) && decide (p < if i < j then j else i)) = a
  generalize (decide ((if j < i then j else i) < q) && decide (q < if i < j then j else i)) = b
  cases a <;> cases b <;> rfl
theorem cr_core {i j p q : Int} (h1 : i < j) (h2 : p < q) (h3 : i ≠ p) (h4 : i ≠ q) (h5 : j ≠ p) (h6 : j ≠ q) : crI p q i j = crI i j p q := by
  unfold crI
  rw [if_neg (show ¬ j < i by omega), if_pos h1, if_neg (show ¬ q < p by omega), if_pos h2]
  have n1 : decide (p < i) = !decide (i < p) := by rw [← decide_not]; exact decide_eq_decide.mpr (by omega)
  have n2 : decide (j < q) = !decide (q < j) := by rw [← decide_not]; exact decide_eq_decide.mpr (by omega)
  rw [n1, n2]
  cases a : decide (i < p) <;> cases b : decide (i < q) <;> cases c : decide (p < j) <;> cases d : decide (q < j)
  all_goals first
    | rfl
    | (exfalso; simp only [decide_eq_true_eq, decide_eq_false_iff_not] at a b c d; omega)
theorem cr_sym {i j p q : Int} (h1 : i ≠ j) (h2 : p ≠ q) (h3 : i ≠ p) (h4 : i ≠ q) (h5 : j ≠ p) (h6 : j ≠ q) : crI p q i j = crI i j p q := by
  rcases Int.lt_or_gt_of_ne h1 with a | a
  · rcases Int.lt_or_gt_of_ne h2 with b | b
    · exact cr_core a b h3 h4 h5 h6
    · rw [← cr_flip p q, ← cr_flip2 i j p q]; exact cr_core a b h4 h3 h6 h5
  · rcases Int.lt_or_gt_of_ne h2 with b | b
    · rw [← cr_flip2 p q i j, ← cr_flip i j]; exact cr_core a b h5 h6 h3 h4
    · rw [← cr_flip p q, ← cr_flip2 q p i j, ← cr_flip i j, ← cr_flip2 j i p q]; exact cr_core a b h6 h5 h4 h3
structure Fx (P : Program) (w : World) (K : PySem.W.Frag) (mg : Str → Option Value) (base : Heap) (k : Nat) (x : Str) (ps : List Str) (sp : Sp) (f : Addr) (fd : FuncData) : Prop where
  ok : FnOk P w K mg base CX0 k f fd ps sp
  m : mg x = some (.ref f)
  k : PySem.W.keepIn K (.ref f) = true
  b : Binds K fd ps []
structure Fk (P : Program) (w : World) (K : PySem.W.Frag) (mg : Str → Option Value) (base : Heap) (k : Nat) (x : Str) (ps ks : List Str) (gp : {α : Type} → List α → List α) (sp : Sp) (f : Addr) (fd : FuncData) : Prop extends Fx P w K mg base k x ps sp f fd where
  kw : KOnly fd ps ks gp
mutual
def lf : PyData → Bool
  | .tuple xs => lfL xs
  | .list _ => false
  | .none => true | .bool _ => true | .int _ => true | .str _ => true | .dict _ => false
def lfL : List PyData → Bool
  | [] => true
  | x :: xs => lf x && lfL xs
end
def StT (H G : Hp) : Prop := (∀ b xs, H b = some (.tup xs) → G b = some (.tup xs)) ∧ ∀ b o xs, H b = some (.frz o (.tup xs)) → G b = some (.frz o (.tup xs))
theorem st_tup {K : PySem.W.Frag} {H G : Hp} {a : Addr} {xs : List V} (e : StT H G) (h : SqT K H a xs) : SqT K G a xs := by
  rcases h with (h | ⟨o, h⟩) | h
  · exact .inl (.inl (e.1 _ _ h))
  · exact .inl (.inr ⟨o, e.2 _ _ _ h⟩)
  · exact .inr h
mutual
theorem st_dp {K : PySem.W.Frag} {H G : Hp} (e : StT H G) : ∀ {d : PyData} {v : V}, lf d = true → Dp K H v d → Dp K G v d
  | .none, _, _, h => by cases h; exact .non
  | .bool b, _, _, h => by cases h; exact .bl b
  | .int i, _, _, h => by cases h; exact .int i
  | .str x, _, _, h => by cases h; exact .str x
  | .list ds, _, l, h => by simp only [lf] at l; cases l
  | .tuple ds, _, l, h => by
    simp only [lf] at l
    cases h with | tup q r => exact .tup (st_tup e q) (st_dps e l r)
  | .dict _, _, _, h => by cases h
theorem st_dps {K : PySem.W.Frag} {H G : Hp} (e : StT H G) : ∀ {ds : List PyData} {vs : List V}, lfL ds = true → DpAll K H vs ds → DpAll K G vs ds
  | [], _, _, h => by cases h; exact .nil
  | _ :: _, _, l, h => by
    simp only [lfL, Bool.and_eq_true] at l
    cases h with | cons q r => exact .cons (st_dp e l.1 q) (st_dps e l.2 r)
end
theorem st_same {H G : Hp} (e : Same H G) : StT H G := ⟨fun b xs h => e _ _ h, fun b o xs h => e _ _ h⟩
theorem StT.trans {H G J : Hp} (a : StT H G) (b : StT G J) : StT H J := ⟨fun c xs h => b.1 _ _ (a.1 _ _ h), fun c o xs h => b.2 _ _ _ (a.2 _ _ _ h)⟩
theorem st_upd {H : Hp} {a : Addr} {o : HO} (h1 : ∀ xs, H a ≠ some (.tup xs)) (h2 : ∀ u xs, H a ≠ some (.frz u (.tup xs))) : StT H (upd H a o) :=
  ⟨fun b xs h => by rw [upd_ne (fun z => by rw [z] at h; exact h1 _ h)]; exact h, fun b u xs h => by rw [upd_ne (fun z => by rw [z] at h; exact h2 _ _ h)]; exact h⟩
theorem st_lst {H : Hp} {a : Addr} {ys : List V} {o : HO} (h : H a = some (.lst ys)) : StT H (upd H a o) :=
  st_upd (fun xs z => by rw [h] at z; cases z) (fun u xs z => by rw [h] at z; cases z)
theorem st_hid {H : Hp} {a C : Addr} {d : Option Addr} (h : H a = some (exo a C d)) : StT H (hid H a) :=
  ⟨fun b xs z => by rw [hid_ne (at_ne h z exo_tup)]; exact z, fun b u xs z => by rw [hid_ne (at_ne h z exo_frz)]; exact z⟩
theorem lf_mem {ds : List PyData} {i : Nat} (h : lfL ds = true) : lf (ds.getD i .none) = true := by
  induction ds generalizing i with
  | nil => rfl
  | cons d ds ih =>
    simp only [lfL, Bool.and_eq_true] at h
    cases i with
    | zero => exact h.1
    | succ i => exact ih h.2
theorem lf_take {ds : List PyData} {i : Nat} (h : lfL ds = true) : lfL (ds.take i) = true := by
  induction ds generalizing i with
  | nil => rw [List.take_nil]; rfl
  | cons d ds ih =>
    simp only [lfL, Bool.and_eq_true] at h
    cases i with
    | zero => rfl
    | succ i => rw [List.take_succ_cons]; simp only [lfL, Bool.and_eq_true]; exact ⟨h.1, ih h.2⟩
theorem dpAll_take {K : PySem.W.Frag} {H : Hp} {ds : List PyData} {xs : List V} {i : Nat} {x : V} (hi : i < ds.length) (h : DpAll K H xs (ds.take i)) (hx : Dp K H x (ds.getD i .none)) : DpAll K H (xs ++ [x]) (ds.take (i + 1)) := by
  have e : ds.take (i + 1) = ds.take i ++ [ds.getD i .none] := by
    rw [List.take_succ, List.getD_eq_getElem?_getD, List.getElem?_eq_getElem hi]; rfl
  rw [e]; exact dpAll_snoc h hx
def spTakeB (K : PySem.W.Frag) : Sp := fun vs H Q _ => ∃ b m n, vs = [.ref b, .int m] ∧ 10000000 < m ∧ m ≤ 1000000000 ∧ BoxAt H b (n + 2) ∧ ∀ r G, 0 ≤ r → r < m → Ap b H G → BoxAt G b n → Q (.int r) G
theorem ok_takeB (N : FnOk P w K mg base CX0 1 f fd ["_law_box_here", "_law_below"] (spTake K)) (F : Fun K "_law_take" "_law_take" sTake f fd) (bF : Binds K fd ["_law_box_here", "_law_below"] []) (mF : mg "_law_take" = some (.ref f)) : FnOk P w K mg base CX0 2 f fd ["_law_box_here", "_law_below"] (spTakeB K) := by
  refine F.ok scTake (fun vs H Q E h => ?_) (fun cdv A outer s H vs Q E hr h => ?_)
  · obtain ⟨b, m, n, rfl, _⟩ := h; rfl
  obtain ⟨b, m, n, rfl, m0, m1, ⟨x, y, z, hb, hx, hz, hn⟩, q⟩ := h
  refine ⟨_, pss_cons (ps_if (pt_cmpR op_gt (pe_ix ix_list (pv 0) pe_int (fun _ _ => rfl)) pe_int (nomark _))
      (pss_cons (ps_set (i := 2) scTake.nd rfl (.inl rfl) (pe_op op_mod (pe_ix ix_list (pv 0) pe_int (fun _ _ => rfl)) (pv 1)))
      (pss_cons (ps_asg (pe_op op_fdiv (pe_ix ix_list (pv 0) pe_int (fun _ _ => rfl)) (pv 1)) (pg_sub (pv 0) pe_int set_list))
      (pss_one (ps_ret (pv 2))))) pss_nil)
    (pss_cons (ps_if (pt_cmpR op_gt (pv 1) (pe_op op_pow pe_int pe_int) (nomark _))
      (pss_one (ps_ret (pe_op op_mod (pe_op op_add (pe_call N hr (by rfl) mF F.kp bF .nil pass0 (pa_cons (pv 0) (pa_cons (pe_op op_pow pe_int pe_int) pa_nil))) (pe_op op_mul (pe_op op_pow pe_int pe_int) (pe_call N hr (by rfl) mF F.kp bF .nil pass0 (pa_cons (pv 0) (pa_cons (pe_op op_add (pe_op op_fdiv (pv 1) (pe_op op_pow pe_int pe_int)) pe_int) pa_nil))))) (pv 1)))) pss_nil)
    (pss_cons (ps_asg (pe_op op_add (pe_ix ix_list (pv 0) pe_int (fun _ _ => rfl)) pe_int) (pg_sub (pv 0) pe_int set_list))
    (pss_cons (ps_set (i := 3) scTake.nd rfl (.inl rfl) (pe_op op_mod (pe_op op_mul (pe_op op_add (pe_ix ix_list (pv 0) pe_int (fun _ _ => rfl)) (pe_op op_mul pe_int (pe_ix ix_list (pv 0) pe_int (fun _ _ => rfl)))) (pe_op op_add pe_int (pe_ix ix_list (pv 0) pe_int (fun _ _ => rfl)))) pe_int))
    (pss_cons (ps_set (i := 4) scTake.nd rfl (.inl rfl) (pe_op op_mod (pe_op op_mul (pe_op op_add (pe_op op_add (pv 3) (pe_ix ix_list (pv 0) pe_int (fun _ _ => rfl))) (pe_op op_fdiv (pe_ix ix_list (pv 0) pe_int (fun _ _ => rfl)) pe_int)) (pe_op op_add (pe_op op_mod (pv 3) pe_int) pe_int)) pe_int))
    (pss_one (ps_ret (pe_op op_mod (pe_op op_fdiv (pe_op op_mod (pe_op op_add (pe_op op_mul (pv 4) pe_int) (pv 3)) pe_int) pe_int) (pv 1)))))))), ?_⟩
  have m0' : 0 < m := by omega
  have hL : SqL K H b [.int x, .int y, .int z] := SqL.of hb
  have e7 : (10 : Int) ^ (7 : Int).toNat = 10000000 := by decide
  refine ⟨_, rfl, b, _, 0, _, rfl, rfl, hL, rfl, _, _, rfl, rfl, _, rfl, ite2 (fun c => ?_) (fun c => ?_)⟩
  · refine ⟨_, rfl, b, _, 0, _, rfl, rfl, hL, rfl, _, rfl, _, _, rfl, rfl, m0', ?_⟩
    refine ⟨_, rfl, b, _, 0, _, rfl, rfl, hL, rfl, _, rfl, _, _, rfl, rfl, ⟨m0', by omega⟩, _, rfl, b, _, 0, 0, rfl, rfl, hb, rfl, ?_⟩
    refine ⟨_, rfl, q _ _ (Int.emod_nonneg _ (by omega)) (Int.emod_lt_of_pos _ m0') ap_upd ⟨x / m, y, z, upd_same, Int.ediv_nonneg hx (by omega), hz, by omega⟩⟩
  · refine ⟨_, rfl, 10, 7, rfl, rfl, ⟨by decide, by decide, by decide⟩, _, _, rfl, rfl, _, rfl, ?_⟩
    have great : (10 : Int) ^ (7 : Int).toNat < m := by omega
    rw [decide_eq_true great]
    refine iteT ?_
    refine ⟨_, rfl, 10, 7, rfl, rfl, ⟨by decide, by decide, by decide⟩, b, _, n + 1, rfl, by decide, by decide, ⟨x, y, z, hb, hx, hz, hn⟩, fun r1 G1 a1 a2 ap1 hB1 => ?_⟩
    refine ⟨10, 7, rfl, rfl, ⟨by decide, by decide, by decide⟩, _, rfl, _, rfl, 10, 7, rfl, rfl, ⟨by decide, by decide, by decide⟩, _, _, rfl, rfl, ⟨by decide, by decide⟩, _, _, rfl, rfl, b, _, n, rfl, ?_, ?_, hB1, fun r2 G2 b1 b2 ap2 hB2 => ?_⟩
    · rw [e7]; have := Int.ediv_nonneg (a := m) (b := 10000000) (by omega) (by decide); omega
    · rw [e7]; omega
    refine ⟨_, _, rfl, rfl, .inl ⟨by decide, by decide⟩, _, _, rfl, rfl, _, rfl, _, _, rfl, rfl, m0', ?_⟩
    exact q _ _ (Int.emod_nonneg _ (by omega)) (Int.emod_lt_of_pos _ m0') (ap1.trans ap2) hB2
def spCopied (K : PySem.W.Frag) (n : Nat) : Sp := fun vs H Q _ => ∃ v d, vs = [v] ∧ Dp K H v d ∧ lf d = true ∧ d.depth < n ∧ numD d ≤ 1000 ∧ ∀ u G, Same H G → Dp K G u d → Q u G
def spIni (K : PySem.W.Frag) (C : Addr) (f : Str) : Sp := fun vs H Q _ => ∃ a v d, vs = [.ref a, v] ∧ H a = some (exo a C none) ∧ Dp K (hid H a) v d ∧ lf d = true ∧ d.depth < 4 ∧ numD d ≤ 1000 ∧ ∀ G dx u, H dx = none → Ap a H G → G a = some (exo a C (some dx)) → G dx = some (exd dx [(f, u)]) → Dp K (hid G a) u d → Q .non G
theorem ini_end {H : Hp} {a C dx : Addr} {n : Str} {u : V} {d : PyData} (hd : Dp K (hid H a) u d) (nd : H dx = none) (ne : dx ≠ a) : Ap a H (upd (upd H dx (exd dx [(n, u)])) a (exo a C (some dx))) ∧ (upd (upd H dx (exd dx [(n, u)])) a (exo a C (some dx))) dx = some (exd dx [(n, u)]) ∧ Dp K (hid (upd (upd H dx (exd dx [(n, u)])) a (exo a C (some dx))) a) u d := by
  have sm : Ap a H (upd (upd H dx (exd dx [(n, u)])) a (exo a C (some dx))) := by unfold Ap; rw [hid_upd]; exact hid_mono (same_new nd)
  exact ⟨sm, by rw [upd_ne ne, upd_same], same_dp sm hd⟩
def spIni0 (C : Addr) : Sp := fun vs H Q _ => ∃ a, vs = [.ref a] ∧ H a = some (exo a C none) ∧ Q .non H
def rCountB : V → List V → Hp → VK → Prop := fun x vs H Q => ∃ l bs k, x = .ref l ∧ vs = [.bl k] ∧ H l = some (.lst (List.map V.bl bs)) ∧ Q (.int (List.count k bs : Nat)) H
theorem dp_bls {K : PySem.W.Frag} {H : Hp} : ∀ bs : List Bool, DpAll K H (bs.map V.bl) (bs.map PyData.bool)
  | [] => .nil
  | b :: bs => .cons (.bl b) (dp_bls bs)
theorem plain_bls : ∀ bs : List Bool, PyData.plainAll (bs.map PyData.bool) = true
  | [] => rfl
  | b :: bs => by
    show (PyData.plain (.bool b) && PyData.plainAll (bs.map PyData.bool)) = true
    rw [plain_bls bs]; rfl
theorem deep_bls : ∀ bs : List Bool, PyData.depthAll (bs.map PyData.bool) = 0
  | [] => rfl
  | b :: bs => by
    show max (PyData.depth (.bool b)) (PyData.depthAll (bs.map PyData.bool)) = 0
    rw [deep_bls bs]; rfl
theorem count_bls (k : Bool) : ∀ bs : List Bool, (bs.map PyData.bool).countP (fun y => PyData.eqv y (.bool k)) = bs.count k
  | [] => rfl
  | b :: bs => by
    rw [List.map_cons, List.countP_cons, List.count_cons, count_bls k bs]
    cases b <;> cases k <;> rfl
theorem mt_countB {X : Cx} (hu : X.A.units + 64 < cLine) : MtM X "list.count" rCountB := by
  intro pins s σ H x vs v us Q I rx rv h
  obtain ⟨l, bs, k, rfl, rfl, hH, q⟩ := h
  cases rx
  obtain ⟨u, rfl, ru⟩ := rv.one
  obtain rfl : u = Value.bool k := ru
  obtain ⟨z, its, n, r, hl, e⟩ := I.lstM hH
  obtain ⟨as, ra⟩ := Dp.readsAll I _ _ _ (dp_bls bs) r
  refine PySem.SeqAt.count_list_data (vs := its.toArray) (xs := bs.map PyData.bool) (d := .bool k) ⟨_, e, rfl, n, rfl⟩ ra (Reads.bool k) (plain_bls bs) rfl ?_ ?_
  · show X.A.units + 1 + min _ 0 < cLine
    rw [Nat.min_zero]; omega
  · rw [count_bls]
    exact ⟨.int _, H, I.tok _, ⟨_, rfl⟩, q⟩
structure Nm (mg : Str → Option Value) (D : Nat → Addr) : Prop where
  n0 : mg "BadLine" = some (.ref (D 0))
  n1 : mg "BadText" = some (.ref (D 1))
  n2 : mg "Blocked" = some (.ref (D 2))
  n3 : mg "Full" = some (.ref (D 3))
  n4 : mg "Impossible" = some (.ref (D 4))
  n5 : mg "NoArm" = some (.ref (D 5))
  n6 : mg "NoNumber" = some (.ref (D 6))
  n7 : mg "NoOperation" = some (.ref (D 7))
  n8 : mg "NoPerson" = some (.ref (D 8))
  n9 : mg "NoPlace" = some (.ref (D 9))
  n10 : mg "OtherPeople" = some (.ref (D 10))
  n11 : mg "TooMany" = some (.ref (D 11))
  n12 : mg "Unfit" = some (.ref (D 12))
def flagsL (bs : Nat → Bool) : List Bool := [bs 0, bs 1, bs 2, bs 3, bs 4, bs 5, bs 6, bs 7, bs 8, bs 9, bs 10, bs 11, bs 12]
def Kits (K : PySem.W.Frag) (D : Nat → Addr) (C : Addr) (bs : Nat → Bool) : Prop := ∀ i, i < 13 → PySem.W.kitOne K (.ref C) (.ref (D i)) = some (bs i)
def spFlags (K : PySem.W.Frag) (D : Nat → Addr) : Sp := fun vs H Q _ => ∃ a C fs bs, vs = [.ref a] ∧ EX K C ∧ ErAt H a C fs ∧ Kits K D C bs ∧ ∀ p G, Same H G → G p = some (.lst ((flagsL bs).map V.bl)) → Q (.ref p) G
structure Rk (K : PySem.W.Frag) (D : Nat → Addr) (C : Addr) (n : Nat) : Prop where
  ex : EX K C
  fl : ∃ bs, Kits K D C bs ∧ (flagsL bs).count true = 1
  kd : ∃ b0 b1 b2 b3, PySem.W.kitOne K (.ref C) (.type "ValueError") = some b0 ∧ PySem.W.kitOne K (.ref C) (.type "LookupError") = some b1 ∧ PySem.W.kitOne K (.ref C) (.type "RuntimeError") = some b2 ∧ PySem.W.kitOne K (.ref C) (.type "OverflowError") = some b3 ∧ [b0, b1, b2, b3] = ([false, false, false, false] : List Bool).set n true
  lt : n < 4
  no : PySem.W.kitAny K (.ref C) [.type "IndexError", .type "KeyError", .type "NotImplementedError"] = some false
def spOne (K : PySem.W.Frag) (D : Nat → Addr) : Sp := fun vs H Q _ => ∃ (a C : Addr) (fs : List (Str × V)) (n : Nat), vs = [.ref a, .int n] ∧ ErAt H a C fs ∧ Rk K D C n ∧ ∀ G, Same H G → Q (.bl true) G
structure Eb (mg : Str → Option Value) : Prop where
  v : mg "ValueError" = none
  l : mg "LookupError" = none
  r : mg "RuntimeError" = none
  o : mg "OverflowError" = none
  i : mg "IndexError" = none
  k : mg "KeyError" = none
  n : mg "NotImplementedError" = none
theorem due_eqv (l : List Bool) : PyData.eqv (.list (l.map PyData.bool)) (.list (l.map PyData.bool)) = true := by
  show PyData.eqvAll (l.map PyData.bool) (l.map PyData.bool) = true
  induction l with
  | nil => rfl
  | cons b l ih => show (PyData.eqv (.bool b) (.bool b) && PyData.eqvAll (l.map PyData.bool) (l.map PyData.bool)) = true; rw [ih]; cases b <;> rfl
def Fi (d : PyData) : Prop := lf d = true ∧ d.depth < 4 ∧ numD d ≤ 1000
theorem mkx {H : Hp} {C : Addr} {n : Str} {v : V} {d : PyData} {Q : Addr → Hp → Prop} (hv : Dp K H v d) (hf : Fi d) (fin : ∀ a G u, Same H G → ErAt G a C [(n, u)] → Dp K G u d → Q a G) :
    [v].length ≤ 1000 ∧ ∀ a, H a = none → spIni K C n (.ref a :: [v]) (upd H a (exo a C none)) (fun v H2 => v = .non ∧ Q a H2) (fun _ _ _ => False) := by
  refine ⟨(by show 1 ≤ 1000; decide), fun a na => ⟨a, v, d, rfl, upd_same, ?_, hf.1, hf.2.1, hf.2.2, fun G dx u _ ap h1 h2 h3 => ⟨rfl, ?_⟩⟩⟩
  · rw [hid_upd, hid_id na]; exact hv
  · unfold Ap at ap
    rw [hid_upd, hid_id na] at ap
    exact fin a G u (ap.trans (hid_same G a)) (.inr ⟨dx, h1, h2⟩) (same_dp (hid_same G a) h3)
abbrev Er := Addr × Addr × Str × V × PyData
def EL (K : PySem.W.Frag) (G : Hp) (L : List Er) : Prop := ∀ (i : Nat) (e : Er), L[i]? = some e → ErAt G e.1 e.2.1 [(e.2.2.1, e.2.2.2.1)] ∧ Dp K G e.2.2.2.1 e.2.2.2.2
theorem EL.same {G J : Hp} {L : List Er} (h : EL K G L) (s : Same G J) : EL K J L := fun i e he => ⟨(h i e he).1.same s, same_dp s (h i e he).2⟩
theorem EL.snoc {G : Hp} {L : List Er} {a C : Addr} {n : Str} {u : V} {d : PyData} (h : EL K G L) (er : ErAt G a C [(n, u)]) (hu : Dp K G u d) : EL K G (L ++ [(a, C, n, u, d)]) := fun i e he => by
  by_cases hi : i < L.length
  · rw [List.getElem?_append_left hi] at he; exact h i e he
  · rw [List.getElem?_append_right (by omega)] at he
    have : i - L.length = 0 := by
      cases z : i - L.length with
      | zero => rfl
      | succ j => rw [z] at he; cases he
    rw [this] at he
    cases he
    exact ⟨er, hu⟩
theorem EL.nil {G : Hp} : EL K G [] := fun i e he => by cases he
theorem lk1 (n : Str) (u : V) : List.lookup n [(n, u)] = some u := by rw [lookup_put, if_pos rfl]
structure My (P : Program) (w : World) (K : PySem.W.Frag) (mg : Str → Option Value) (base : Heap) (k : Nat) (D : Nat → Addr) (x n : Str) (n4 : Nat) (C fI : Addr) (fd : FuncData) : Prop where
  m : Mx P w K mg base k x [n] (spIni K C n) C fI fd
  kb : ∀ (t : Shared) (a u : Value), BindsTo t fd ⟨[a], [(n, u)]⟩ [("self", a), (n, u)]
  no : PySem.W.findIn K (.ref C) n = some none
  r : Rk K D C n4
def kitsL (K : PySem.W.Frag) (ds : List Addr) (C : Addr) : List (Option Bool) := ds.map fun D => PySem.W.kitOne K (.ref C) (.ref D)
def rkB (K : PySem.W.Frag) (ds : List Addr) (C : Addr) (n : Nat) : Bool := (kitsL K ds C).all (·.isSome) && (decide ((kitsL K ds C).count (some true) = 1) && (decide ([PySem.W.kitOne K (.ref C) (.type "ValueError"), PySem.W.kitOne K (.ref C) (.type "LookupError"), PySem.W.kitOne K (.ref C) (.type "RuntimeError"), PySem.W.kitOne K (.ref C) (.type "OverflowError")] = (([false, false, false, false] : List Bool).set n true).map some) && (decide (n < 4) && decide (PySem.W.kitAny K (.ref C) [.type "IndexError", .type "KeyError", .type "NotImplementedError"] = some false))))
theorem some_count : ∀ l : List (Option Bool), l.all (·.isSome) = true → (l.map (·.getD false)).count true = l.count (some true)
  | [], _ => rfl
  | none :: l, h => by cases h
  | some b :: l, h => by
    have z := some_count l (by simpa using h)
    rw [List.map_cons, List.count_cons, List.count_cons, z]
    cases b <;> rfl
theorem rk_of {K : PySem.W.Frag} {ds : List Addr} {C : Addr} {n : Nat} (hl : ds.length = 13) (T : EX K C) (h : rkB K ds C n = true) : Rk K (fun i => ds.getD i 0) C n := by
  obtain ⟨h1, h⟩ := Bool.and_eq_true_iff.mp h
  obtain ⟨h2, h⟩ := Bool.and_eq_true_iff.mp h
  obtain ⟨h3, h⟩ := Bool.and_eq_true_iff.mp h
  obtain ⟨h4, h5⟩ := Bool.and_eq_true_iff.mp h
  have c := of_decide_eq_true h2
  rw [← some_count _ h1] at c
  have l4 := of_decide_eq_true h4
  have kd := of_decide_eq_true h3
  refine ⟨T, ⟨fun i => (PySem.W.kitOne K (.ref C) (.ref (ds.getD i 0))).getD false, fun i hi => ?_, ?_⟩, ?_, l4, of_decide_eq_true h5⟩
  · have m : PySem.W.kitOne K (.ref C) (.ref (ds.getD i 0)) ∈ kitsL K ds C := by
      have e : ds.getD i 0 = ds[i]'(by omega) := by rw [List.getD_eq_getElem?_getD, List.getElem?_eq_getElem (by omega)]; rfl
      rw [e]
      exact List.mem_map_of_mem (List.getElem_mem _)
    have z := List.all_eq_true.mp h1 _ m
    show PySem.W.kitOne K (.ref C) (.ref (ds.getD i 0)) = some ((PySem.W.kitOne K (.ref C) (.ref (ds.getD i 0))).getD false)
    cases e : PySem.W.kitOne K (.ref C) (.ref (ds.getD i 0)) with
    | none => rw [e] at z; cases z
    | some b => rfl
  · match ds, hl with
    | [_, _, _, _, _, _, _, _, _, _, _, _, _], _ => exact c
  · match n, l4 with
    | 0, _ => simp only [List.set, List.map, List.cons.injEq] at kd; exact ⟨_, _, _, _, kd.1, kd.2.1, kd.2.2.1, kd.2.2.2.1, rfl⟩
    | 1, _ => simp only [List.set, List.map, List.cons.injEq] at kd; exact ⟨_, _, _, _, kd.1, kd.2.1, kd.2.2.1, kd.2.2.2.1, rfl⟩
    | 2, _ => simp only [List.set, List.map, List.cons.injEq] at kd; exact ⟨_, _, _, _, kd.1, kd.2.1, kd.2.2.1, kd.2.2.2.1, rfl⟩
    | 3, _ => simp only [List.set, List.map, List.cons.injEq] at kd; exact ⟨_, _, _, _, kd.1, kd.2.1, kd.2.2.1, kd.2.2.2.1, rfl⟩
theorem kb_of {K : PySem.W.Frag} {qual : Str} {st : Stmt} {f : Addr} {fd : FuncData} {p : Str} (F : Fun K "__init__" qual st f fd)
    (h : ∀ (kV doc pm : Value) (an : Option Addr) (cdv ct a u : Value), bindArgs (PySem.W.fnOf "__init__" qual (defArgs st) (defBody st) (defScope st) .none kV doc pm an cdv ct) ⟨[a], [(p, u)]⟩ = pure [(("self" : Str), a), (p, u)]) : ∀ (t : Shared) (a u : Value), BindsTo t fd ⟨[a], [(p, u)]⟩ [("self", a), (p, u)] := by
  obtain ⟨oc, od, kV, doc, pm, an, cdv, ct, osl, rfl, lk, hcd⟩ := F.ex
  exact fun t a u => .of_eq (h kV doc pm an cdv ct a u)
mutual
def toL : PyData → PyData
  | .tuple xs => .list (toLs xs)
  | .list xs => .list (toLs xs)
  | .none => .none | .bool b => .bool b | .int i => .int i | .str s => .str s | .dict d => .dict d
def toLs : List PyData → List PyData
  | [] => []
  | x :: xs => toL x :: toLs xs
end
theorem toLs_map : ∀ ds : List PyData, toLs ds = ds.map toL
  | [] => rfl
  | d :: ds => by rw [toLs, toLs_map ds]; rfl
def spLists (K : PySem.W.Frag) (n : Nat) : Sp := fun vs H Q _ => ∃ v d, vs = [v] ∧ Dp K H v d ∧ d.depth < n ∧ numD d ≤ 1000 ∧ ∀ u G, Same H G → Dp K (nw H G) u (toL d) → Q u G
theorem row_natL (n : Nat) (m : Nat → Nat) : rowV n m = natV (rowL n m) := by
  unfold rowV natV rowL; rw [List.map_map]; rfl
theorem row_atI {n : Nat} {m : Nat → Nat} {i : Int} (h0 : 0 ≤ i) (h1 : i < n) : atI (rowV n m) i = some (.int (m i.toNat : Nat)) := by
  have hx : (rowV n m)[i.toNat]? = some (.int (m i.toNat : Nat)) := by
    unfold rowV; rw [List.getElem?_map, List.getElem?_range (by omega)]; rfl
  have z := atI_nat hx
  rwa [show ((i.toNat : Nat) : Int) = i by omega] at z
theorem row_atN {n : Nat} {m : Nat → Nat} {i : Nat} (h1 : i < n) : atI (rowV n m) (i : Int) = some (.int (m i : Nat)) := by
  have z := row_atI (n := n) (m := m) (i := (i : Int)) (by omega) (by omega)
  rwa [show ((i : Int)).toNat = i by omega] at z
theorem ix_A {H : Hp} {a : Addr} {xs : List V} {i : Int} {v : V} {Q : VK} (h : SqA K H a xs) (e : atI xs i = some v) (q : Q v H) : rIx K (.ref a) (.int i) H Q := by
  rcases h with h | h
  · exact .inr (.inl ⟨a, xs, i, v, rfl, rfl, h, e, q⟩)
  · exact .inl ⟨a, xs, i, v, rfl, rfl, h, e, q⟩
theorem ixN_nat {xs : List V} {i : Nat} (h : i < xs.length) : ixN xs.length (i : Int) = some i := by
  unfold ixN; rw [if_pos (by omega), if_pos (by omega)]; congr 1
def spLesser (K : PySem.W.Frag) : Sp := fun vs H Q _ => ∃ (a : Addr) (n : Nat) (m : Nat → Nat) (i : Int), vs = [.ref a, .int i] ∧ SqA K H a (rowV n m) ∧ Q (.bl (lesB n m i)) H
abbrev nIsLesser : List Str := ["arrangement", "person"]
def spSwapped (K : PySem.W.Frag) : Sp := fun vs H Q _ => ∃ (a : Addr) (n : Nat) (m : Nat → Nat) (i j : Nat), vs = [.ref a, .int (i : Nat), .int (j : Nat)] ∧ SqA K H a (rowV n m) ∧ Les n m i j ∧ n ≤ 1000 ∧
  ∀ p G, Same H G → H p = none → G p = some (.tup (rowV n (swN m i j))) → Q (.ref p) G
abbrev nSwapped : List Str := ["arrangement", "i", "j", "a", "b", "c", "d", "partners"]
def pairsN (lows : List Nat) : List (Nat × Nat) := lows.flatMap fun a => (lows.filter fun b => decide (a < b)).map fun b => (a, b)
def pairsU (lows : List Nat) (i : Nat) : List (Nat × Nat) := (lows.take i).flatMap fun a => (lows.filter fun b => decide (a < b)).map fun b => (a, b)
theorem exsN_eq (n : Nat) (m : Nat → Nat) : exsN n m = (pairsN (begN m n)).filter fun p => !crsB n (swN m p.1 p.2) := by
  unfold exsN pairsN
  rw [List.filter_flatMap]
  congr 1
  funext a
  rw [List.filter_map, List.filter_filter]
  congr 1
  apply List.filter_congr
  intro b _
  exact Bool.and_comm _ _
theorem take_snoc {α : Type} {l : List α} {i : Nat} {x : α} (h : l[i]? = some x) : l.take (i + 1) = l.take i ++ [x] := by
  rw [List.take_add_one, h]; rfl
theorem pairsU_succ {lows : List Nat} {i lo : Nat} (h : lows[i]? = some lo) : pairsU lows (i + 1) = pairsU lows i ++ (lows.filter fun b => decide (lo < b)).map fun b => (lo, b) := by
  unfold pairsU
  rw [take_snoc h, List.flatMap_append]
  simp
theorem flat_le {lows : List Nat} {c : Nat} (h : lows.length ≤ c) : ∀ l : List Nat, (l.flatMap fun a => (lows.filter fun b => decide (a < b)).map fun b => (a, b)).length ≤ l.length * c
  | [] => by simp
  | a :: l => by
    rw [List.flatMap_cons, List.length_append, List.length_map, List.length_cons, Nat.add_mul]
    have h1 := flat_le h l
    have h2 := List.length_filter_le (fun b => decide (a < b)) lows
    omega
theorem beg_len (m : Nat → Nat) (n : Nat) : (begN m n).length ≤ n := by
  unfold begN
  exact Nat.le_trans (List.length_filter_le _ _) (by rw [List.length_range]; exact Nat.le_refl _)
theorem natV_get {l : List Nat} {i : Nat} {x : V} (h : (natV l)[i]? = some x) : ∃ y, l[i]? = some y ∧ x = .int (y : Nat) := by
  unfold natV at h
  rw [List.getElem?_map] at h
  obtain ⟨y, e, rfl⟩ := Option.map_eq_some_iff.mp h
  exact ⟨y, e, rfl⟩
theorem natV_len (l : List Nat) : (natV l).length = l.length := List.length_map ..
theorem dpp_get {H : Hp} {xs : List V} {L : List (Nat × Nat)} {i : Nat} {x : V} (h : DpAll K H xs (L.map pairD)) (e : xs[i]? = some x) : ∃ t p, L[i]? = some p ∧ x = .ref t ∧ SqT K H t [.int (p.1 : Nat), .int (p.2 : Nat)] := by
  have hi : i < L.length := by
    have h1 := dpAll_len h
    rw [List.length_map] at h1
    obtain ⟨h2, _⟩ := List.getElem?_eq_some_iff.mp e
    omega
  have hx := dpAll_get h e
  rw [getD_pairs hi] at hx
  obtain ⟨t, rfl, ht⟩ := dp_pair hx
  rw [List.getD_eq_getElem?_getD, List.getElem?_eq_getElem hi] at ht
  exact ⟨t, _, List.getElem?_eq_getElem hi, rfl, ht⟩
def spExch (K : PySem.W.Frag) : Sp := fun vs H Q _ => ∃ a n m, vs = [.ref a] ∧ SqA K H a (rowV n m) ∧ Prd n m ∧ ¬ Crs n m ∧ n ≤ 24 ∧ ∀ p ys G, Same H G → H p = none → G p = some (.lst ys) → DpAll K (hid G p) ys ((exsN n m).map pairD) → Q (.ref p) G
abbrev nExchanges : List Str := ["arrangement", "lesser", "pairs", "low", "high", "i", "j"]
structure Fy (P : Program) (w : World) (K : PySem.W.Frag) (mg : Str → Option Value) (base : Heap) (k : Nat) (x : Str) (ps : List Str) (sp : Sp) (f : Addr) (fd : FuncData) : Prop where
  ok : FnOk P w K mg base (L2.CX P w) k f fd ps sp
  m : mg x = some (.ref f)
  k : PySem.W.keepIn K (.ref f) = true
  b : Binds K fd ps []
structure Fyk (P : Program) (w : World) (K : PySem.W.Frag) (mg : Str → Option Value) (base : Heap) (k : Nat) (x : Str) (ps ks : List Str) (gp : {α : Type} → List α → List α) (sp : Sp) (f : Addr) (fd : FuncData) : Prop extends Fy P w K mg base k x ps sp f fd where
  kw : KOnly fd ps ks gp
theorem rmk {H : Hp} {C : Addr} {n : Str} {v : V} {d : PyData} {Q : XK} (hv : Dp K H v d) (hf : Fi d) (fin : ∀ dx u G, Same H G → H dx = none → G dx = some (.xd [(n, u)]) → Dp K G u d → Q (.ref C) (some dx) G) :
    [v].length ≤ 1000 ∧ ∀ a, H a = none → spIni K C n (.ref a :: [v]) (upd H a (exo a C none)) (fun v H2 => v = .non ∧ ((∃ (d : Addr) (fs : List (Str × V)), H2 a = some (exo a C (some d)) ∧ H2 d = some (exd d fs) ∧ H d = none ∧ Q (.ref C) (some d) (upd (del H2 a) d (.xd fs))) ∨ (H2 a = some (exo a C none) ∧ Q (.ref C) none (del H2 a)))) (fun _ _ _ => False) := by
  refine ⟨(by show 1 ≤ 1000; decide), fun a na => ⟨a, v, d, rfl, upd_same, ?_, hf.1, hf.2.1, hf.2.2, fun G dx u nd ap h1 h2 h3 => ⟨rfl, .inl ⟨dx, _, h1, h2, ?_, ?_⟩⟩⟩⟩
  · rw [hid_upd, hid_id na]; exact hv
  · have ne : dx ≠ a := fun z => by rw [z, upd_same] at nd; cases nd
    rw [upd_ne ne] at nd; exact nd
  · have ne : dx ≠ a := fun z => by rw [z, upd_same] at nd; cases nd
    rw [upd_ne ne] at nd
    unfold Ap at ap
    rw [hid_upd, hid_id na] at ap
    have st : StT (hid G a) (upd (hid G a) dx (.xd [(n, u)])) := st_upd (fun xs z => by rw [hid_ne ne, h2] at z; cases z) (fun o xs z => by rw [hid_ne ne, h2] at z; cases z)
    refine fin dx u _ (fun b z e => ?_) nd upd_same (st_dp st hf.1 h3)
    rw [upd_ne (ne_of_none e nd)]
    exact ap b z e
theorem fi_int (i : Int) : Fi (.int i) := ⟨rfl, (by show 0 < 4; decide), (by show 1 ≤ 1000; decide)⟩
theorem fi_pair (i j : Int) : Fi (.tuple [.int i, .int j]) := ⟨rfl, (by show 1 < 4; decide), (by show 3 ≤ 1000; decide)⟩
def spExd (K : PySem.W.Frag) (CA CB : Addr) : Sp := fun vs H Q E => ∃ a c n m i j, vs = [.ref a, .ref c] ∧ SqA K H a (rowV n m) ∧ SqA K H c [.int i, .int j] ∧ Prd n m ∧ ¬ Crs n m ∧ n ≤ 24 ∧
  (∀ m' p G, dueN n m i j = .arr m' → Same H G → H p = none → G p = some (.tup (rowV n m')) → Q (.ref p) G) ∧
  (∀ k dx u G, dueN n m i j = .arm k → Same H G → H dx = none → G dx = some (.xd [("person", u)]) → Dp K G u (.int k) → E (.ref CA) (some dx) G) ∧
  (∀ i' j' dx u G, dueN n m i j = .blk i' j' → Same H G → H dx = none → G dx = some (.xd [("pair", u)]) → Dp K G u (.tuple [.int i', .int j']) → E (.ref CB) (some dx) G)
abbrev nExchanged : List Str := ["arrangement", "exchange", "i", "j", "person", "partners"]
theorem tour_cons {n : Nat} {m : Nat → Nat} {p : Int × Int} {L : List (Int × Int)} : tourN n m (p :: L) = (match dueN n m p.1 p.2 with | .arr m' => tourN n m' L | r => r) := rfl
def PrA (K : PySem.W.Frag) (H : Hp) (xs : List V) (L : List (Int × Int)) : Prop := ∀ (i : Nat) (x : V), xs[i]? = some x → ∃ (t : Addr) (p : Int × Int), L[i]? = some p ∧ x = .ref t ∧ SqA K H t [.int p.1, .int p.2]
def spRun (K : PySem.W.Frag) (CA CB : Addr) : Sp := fun vs H Q E => ∃ a c n m xs L, vs = [.ref a, .ref c] ∧ SqA K H a (rowV n m) ∧ SqA K H c xs ∧ xs.length = L.length ∧ PrA K H xs L ∧ Prd n m ∧ ¬ Crs n m ∧ n ≤ 24 ∧
  (∀ m' p G, tourN n m L = .arr m' → Same H G → SqT K G p (rowV n m') → Q (.ref p) G) ∧
  (∀ k dx u G, tourN n m L = .arm k → Same H G → H dx = none → G dx = some (.xd [("person", u)]) → Dp K G u (.int k) → E (.ref CA) (some dx) G) ∧
  (∀ i' j' dx u G, tourN n m L = .blk i' j' → Same H G → H dx = none → G dx = some (.xd [("pair", u)]) → Dp K G u (.tuple [.int i', .int j']) → E (.ref CB) (some dx) G)
abbrev nRun : List Str := ["arrangement", "some", "partners", "exchange"]
theorem same_hid {H G : Hp} {D : Addr} (s : Same H G) (nD : H D = none) : Same H (hid G D) := fun b z e => by
  rw [hid_ne (ne_of_none e nD)]; exact s b z e
theorem rep_zeroN (k : Nat) : natV (List.replicate k 0) = natV (seatN k []) := rfl
def spSeatS (K : PySem.W.Frag) : Sp := fun vs H Q _ => ∃ (a : Addr) (n : Nat) (xs : List V) (L : List (Nat × Nat)), vs = [.int (n : Nat), .ref a] ∧ n ≤ 24 ∧ SqL K H a xs ∧ DpAll K H xs (L.map pairD) ∧ (∀ p ∈ L, p.1 < n ∧ p.2 < n) ∧
  ∀ (p : Addr) (G : Hp), Same H G → H p = none → G p = some (.tup (natV (seatN n L))) → Q (.ref p) G
abbrev nSeatedS : List Str := ["_law_size", "_law_duos", "_law_hall_here", "_law_low", "_law_high"]
theorem dpAll_app {H : Hp} : ∀ {ds es : List PyData} {xs ys : List V}, DpAll K H xs ds → DpAll K H ys es → DpAll K H (xs ++ ys) (ds ++ es)
  | [], _, _, _, h, q => by cases h; exact q
  | _ :: _, _, _, _, h, q => by cases h with | cons a b => exact .cons a (dpAll_app b q)
theorem in2 (x i j : Nat) : (!inV (.int (x : Nat)) [.int (i : Nat), .int (j : Nat)]) = (decide (x ≠ i) && decide (x ≠ j)) := by
  have e : ∀ a : Nat, eqV (.int (a : Nat)) (.int (x : Nat)) = decide (x = a) := fun a => by
    show (((a : Nat) : Int) == ((x : Nat) : Int)) = decide (x = a)
    by_cases c : x = a
    · rw [decide_eq_true c, c]; simp
    · rw [decide_eq_false c]; simp; omega
  unfold inV
  simp only [List.any_cons, List.any_nil, e, Bool.or_false, Bool.not_or]
  by_cases c1 : x = i <;> by_cases c2 : x = j <;> simp [c1, c2]
def spLSw (K : PySem.W.Frag) : Sp := fun vs H Q _ => ∃ (a c : Addr) (n : Nat) (m : Nat → Nat) (i j : Nat), vs = [.ref a, .ref c] ∧ SqT K H a (rowV n m) ∧ SqT K H c [.int (i : Nat), .int (j : Nat)] ∧ Les n m i j ∧ n ≤ 24 ∧
  (¬ Crs n (swN m i j) → ∀ p G, Same H G → H p = none → G p = some (.tup (rowV n (swN m i j))) → Q (.ref p) G) ∧ (Crs n (swN m i j) → ∀ G, Same H G → Q .non G)
abbrev nLSwapped : List Str := ["_law_hall_here", "_law_duo", "_law_a", "_law_b", "_law_c", "_law_d", "_law_made", "_law_rest", "_law_its"]
theorem lf_pairs (L : List (Nat × Nat)) : lfL (L.map pairD) = true := by
  induction L with
  | nil => rfl
  | cons p L ih => rw [List.map_cons]; unfold lfL; rw [ih]; rfl
theorem st_hidL {H : Hp} {a : Addr} {xs : List V} (h : H a = some (.lst xs)) : StT H (hid H a) :=
  ⟨fun b ys z => by rw [hid_ne (at_ne h z (by intro q; cases q))]; exact z, fun b u ys z => by rw [hid_ne (at_ne h z (by intro q; cases q))]; exact z⟩
theorem lcI_ext {H G : Hp} {D : Addr} {ds es : List PyData} {acc zs : List V} (h : LcI K H D ds G) (nD : H D = none) (e : G D = some (.lst acc)) (hz : DpAll K G zs es) (lf : lfL es = true) : LcI K H D (ds ++ es) (upd G D (.lst (acc ++ zs))) := by
  obtain ⟨sm, acc', e', hA⟩ := h
  rw [e] at e'
  cases e'
  refine ⟨same_grow nD sm, _, upd_same, ?_⟩
  rw [hid_upd]
  exact dpAll_app hA (st_dps (st_hidL e) lf hz)
theorem drop_filter : ∀ {l : List Nat} {i x : Nat}, l.Pairwise (· < ·) → l[i]? = some x → l.drop (i + 1) = l.filter fun b => decide (x < b)
  | [], _, _, _, h => by simp at h
  | a :: l, 0, x, hp, h => by
    have e : a = x := Option.some.inj h
    subst e
    obtain ⟨h1, _⟩ := List.pairwise_cons.mp hp
    rw [List.filter_cons, if_neg (by simp), List.drop_succ_cons, List.drop_zero]
    exact (List.filter_eq_self.mpr fun b hb => decide_eq_true (h1 b hb)).symm
  | a :: l, i + 1, x, hp, h => by
    obtain ⟨h1, h2⟩ := List.pairwise_cons.mp hp
    have hx : l[i]? = some x := h
    have lt := h1 x (List.mem_of_getElem? hx)
    rw [List.filter_cons, if_neg (by simp; omega), List.drop_succ_cons]
    exact drop_filter h2 hx
theorem cutV_drop (xs : List V) (i : Nat) : cutV xs (some ((i : Int) + 1)) none = xs.drop (i + 1) := by
  have e : ((i : Int) + 1) = ((i + 1 : Nat) : Int) := by omega
  unfold cutV
  rw [e, HT.sIx_nat, HT.sIx_none]
  by_cases h : i + 1 ≤ xs.length
  · rw [Nat.min_eq_left h, List.take_of_length_le (by rw [List.length_drop]; omega)]
  · rw [Nat.min_eq_right (by omega), List.drop_eq_nil_of_le (by omega), List.drop_eq_nil_of_le (show xs.length ≤ i + 1 by omega), List.take_nil]
def exsU (n : Nat) (m : Nat → Nat) (i : Nat) : List (Nat × Nat) := ((begN m n).take i).flatMap fun i => ((begN m n).filter fun j => decide (i < j) && !crsB n (swN m i j)).map fun j => (i, j)
theorem exsU_succ {n : Nat} {m : Nat → Nat} {i lo : Nat} (h : (begN m n)[i]? = some lo) : exsU n m (i + 1) = exsU n m i ++ (((begN m n).drop (i + 1)).filter fun j => !crsB n (swN m lo j)).map fun j => (lo, j) := by
  unfold exsU
  rw [take_snoc h, List.flatMap_append, drop_filter (begN_lt m n) h, List.filter_filter]
  simp only [List.flatMap_cons, List.flatMap_nil, List.append_nil]
  congr 2
  apply List.filter_congr
  intro b _
  exact Bool.and_comm _ _
theorem exsU_len {n : Nat} {m : Nat → Nat} (hn : n ≤ 24) (i : Nat) : (exsU n m i).length ≤ 576 := by
  have lb := beg_len m n
  have h : ∀ l : List Nat, (l.flatMap fun i => ((begN m n).filter fun j => decide (i < j) && !crsB n (swN m i j)).map fun j => (i, j)).length ≤ l.length * 24 := by
    intro l
    induction l with
    | nil => simp
    | cons a l ih =>
      rw [List.flatMap_cons, List.length_append, List.length_map, List.length_cons, Nat.add_mul]
      have h2 := List.length_filter_le (fun j => decide (a < j) && !crsB n (swN m a j)) (begN m n)
      omega
  have h1 := h ((begN m n).take i)
  have h2 : ((begN m n).take i).length ≤ 24 := by rw [List.length_take]; omega
  unfold exsU
  omega
def spSwaps (K : PySem.W.Frag) : Sp := fun vs H Q _ => ∃ a n m, vs = [.ref a] ∧ SqT K H a (rowV n m) ∧ Prd n m ∧ ¬ Crs n m ∧ n ≤ 24 ∧ ∀ p ys G, Same H G → H p = none → G p = some (.lst ys) → DpAll K (hid G p) ys ((exsN n m).map pairD) → Q (.ref p) G
abbrev nSwaps : List Str := ["_law_hall_here", "_law_lows", "_law_found", "_law_k", "_law_low", "_law_high", "_law_its"]
def rowD (n : Nat) (m : Nat → Nat) : List PyData := (List.range n).map fun i => .int (m i : Nat)
def resD (n : Nat) : Res → PyData
  | .arm k => .tuple [.str "no arm", .int k]
  | .blk i j => .tuple [.str "blocked", .tuple [.int i, .int j]]
  | .arr m => .tuple (rowD n m)
theorem dpAll_row2 {H : Hp} {m : Nat → Nat} : ∀ l : List Nat, DpAll K H (l.map fun i => V.int (m i : Nat)) (l.map fun i => PyData.int (m i : Nat))
  | [] => .nil
  | _ :: l => .cons (.int _) (dpAll_row2 l)
theorem dp_rowD {H : Hp} {p : Addr} {n : Nat} {m : Nat → Nat} (h : SqT K H p (rowV n m)) : Dp K H (.ref p) (.tuple (rowD n m)) := .tup h (dpAll_row2 _)
theorem rowD_dp {H : Hp} {u : V} {n : Nat} {m : Nat → Nat} (h : Dp K H u (.tuple (rowD n m))) : ∃ p, u = .ref p ∧ SqT K H p (rowV n m) := by
  cases h with
  | tup q r =>
    have l : (rowD n m).length = n := by unfold rowD; rw [List.length_map, List.length_range]
    have e := dpAll_row (m := m) r fun i hi => by
      rw [l] at hi
      unfold rowD
      rw [List.getD_eq_getElem?_getD, List.getElem?_map, List.getElem?_range hi]; rfl
    rw [l] at e
    subst e
    exact ⟨_, rfl, q⟩
def spDue (K : PySem.W.Frag) : Sp := fun vs H Q _ => ∃ (a c : Addr) (n : Nat) (m : Nat → Nat) (i j : Int), vs = [.ref a, .ref c] ∧ SqT K H a (rowV n m) ∧ SqT K H c [.int i, .int j] ∧ Prd n m ∧ ¬ Crs n m ∧ n ≤ 24 ∧ ∀ u G, Same H G → Dp K G u (resD n (dueN n m i j)) → Q u G
abbrev nDue : List Str := ["_law_hall_here", "_law_duo", "_law_k", "_law_found"]
theorem les_not {n : Nat} {m : Nat → Nat} {x : Int} (h : Prd n m) (h0 : 0 ≤ x) (h1 : x < n) : lesB n m x = !decide (((m x.toNat : Nat) : Int) < x) := by
  have q := (h x.toNat (by omega)).2.1
  unfold lesB
  rw [decide_eq_true h0, decide_eq_true h1]
  by_cases c : x.toNat < m x.toNat
  · rw [decide_eq_true c, decide_eq_false (by omega)]; rfl
  · rw [decide_eq_false c, decide_eq_true (by omega)]; rfl
structure XF (K : PySem.W.Frag) (mg : Str → Option Value) (CA CB CP CO : Addr) : Prop where
  a1 : PySem.W.exmAny K (.ref CA) [.ref CB, .ref CA, .ref CP, .ref CO] = some true
  b1 : PySem.W.exmAny K (.ref CB) [.ref CB, .ref CA, .ref CP, .ref CO] = some true
  a2 : PySem.W.kitOne K (.ref CA) (.ref CA) = some true
  a3 : PySem.W.kitOne K (.ref CA) (.type "LookupError") = some true
  a4 : PySem.W.kitAny K (.ref CA) [.ref CB, .ref CP] = some false
  b2 : PySem.W.kitOne K (.ref CB) (.ref CA) = some false
  b3 : PySem.W.kitOne K (.ref CB) (.ref CB) = some true
  b4 : PySem.W.kitOne K (.ref CB) (.type "RuntimeError") = some true
  b5 : PySem.W.kitAny K (.ref CB) [.ref CP, .ref CO] = some false
  nA : PySem.W.findIn K (.ref CA) "person" = some none
  nB : PySem.W.findIn K (.ref CB) "pair" = some none
  tA : EX K CA
  tB : EX K CB
  gA : mg "NoArm" = some (.ref CA)
  gB : mg "Blocked" = some (.ref CB)
  gP : mg "NoPerson" = some (.ref CP)
  gO : mg "OtherPeople" = some (.ref CO)
theorem erv_new {G : Hp} {ea dx C : Addr} {fs : List (Str × V)} (na : G ea = none) (h : G dx = some (.xd fs)) : ErV (upd G ea (exv ea (.ref C) (some dx))) ea C fs := .inr ⟨dx, upd_same, by rw [upd_ne (ne_of_none h na)]; exact h⟩
theorem cut {α : Type} {t : L2.St → Hp → (α → Hp → Prop) → Prop} {σ : L2.St} {H : Hp} {Q : α → Hp → Prop} (Good : α → Hp → Prop) (h : ∀ R : α → Hp → Prop, (∀ v J, Good v J → R v J) → t σ H R) (hq : ∀ v J, Good v J → Q v J) : t σ H Q := h Q hq
theorem asg_cut {te : TE} {g : TG} {D : Ends} {σ : L2.St} {H : Hp} (Good : V → Hp → Prop) (h : ∀ R : V → Hp → Prop, (∀ v J, Good v J → R v J) → te σ H R) (hq : ∀ v J, Good v J → g v σ J D.nx) : tAsg te g D σ H := h _ hq
theorem ifS_cut {c : TT} {t u : TS} {D : Ends} {σ : L2.St} {H : Hp} (Good : Bool → Hp → Prop) (h : ∀ R : Bool → Hp → Prop, (∀ v J, Good v J → R v J) → c σ H R) (ht : ∀ J, Good true J → t D σ J) (hf : ∀ J, Good false J → u D σ J) : tIfS c t u D σ H :=
  h _ fun b J g => by
    cases b with
    | true => exact iteT (ht J g)
    | false => exact iteF (hf J g)
theorem hid_upd_ne {G : Hp} {b T : Addr} {o : HO} (h : T ≠ b) : hid (upd G T o) b = upd (hid G b) T o := by
  funext c
  by_cases e : c = b
  · rw [e, hid_at, upd_ne (Ne.symm h), hid_at]
  · rw [hid_ne e]
    by_cases e2 : c = T
    · rw [e2, upd_same, upd_same]
    · rw [upd_ne e2, upd_ne e2, hid_ne e]
def prD (p : Int × Int) : PyData := .tuple [.int p.1, .int p.2]
theorem pairD_pr (p : Nat × Nat) : pairD p = prD ((p.1 : Int), (p.2 : Int)) := rfl
theorem dp_prD {H : Hp} {v : V} {p : Int × Int} (h : Dp K H v (prD p)) : ∃ t, v = .ref t ∧ SqT K H t [.int p.1, .int p.2] := by
  unfold prD at h
  cases h with
  | tup q r =>
    cases r with
    | cons a r =>
      cases r with
      | cons b r =>
        cases r; cases a; cases b
        exact ⟨_, rfl, q⟩
theorem getD_prs {L : List (Int × Int)} {i : Nat} {p : Int × Int} (h : L[i]? = some p) : (L.map prD).getD i .none = prD p := by
  rw [List.getD_eq_getElem?_getD, List.getElem?_map, h]; rfl
theorem prs_get {H : Hp} {xs : List V} {L : List (Int × Int)} {i : Nat} {x : V} (h : DpAll K H xs (L.map prD)) (e : xs[i]? = some x) : ∃ (t : Addr) (p : Int × Int), L[i]? = some p ∧ x = .ref t ∧ SqT K H t [.int p.1, .int p.2] := by
  have hi : i < L.length := by
    have h1 := dpAll_len h
    rw [List.length_map] at h1
    obtain ⟨h2, _⟩ := List.getElem?_eq_some_iff.mp e
    omega
  have hx := dpAll_get h e
  rw [getD_prs (List.getElem?_eq_getElem hi)] at hx
  obtain ⟨t, rfl, ht⟩ := dp_prD hx
  exact ⟨t, _, List.getElem?_eq_getElem hi, rfl, ht⟩
theorem prA_of {H : Hp} {xs : List V} {L : List (Int × Int)} (h : DpAll K H xs (L.map prD)) : PrA K H xs L := fun i x e => by
  obtain ⟨t, p, h1, h2, h3⟩ := prs_get h e
  exact ⟨t, p, h1, h2, .inl h3⟩
def prL (p : Int × Int) : PyData := .list [.int p.1, .int p.2]
theorem toL_prs (L : List (Int × Int)) : toL (.list (L.map prD)) = .list (L.map prL) := by
  rw [toL, toLs_map, List.map_map]; rfl
theorem prA_ofL {H : Hp} : ∀ {L : List (Int × Int)} {xs : List V}, DpAll K H xs (L.map prL) → PrA K H xs L
  | [], xs, h => by cases h; intro i x e; simp at e
  | p :: L, xs, h => by
    cases h with
    | cons q r =>
      intro i x e
      cases i with
      | zero =>
        have z := Option.some.inj e
        subst z
        unfold prL at q
        cases q with
        | lst q r =>
          cases r with
          | cons a r =>
            cases r with
            | cons b r =>
              cases r; cases a; cases b
              exact ⟨_, p, rfl, rfl, .inr q⟩
      | succ i => exact prA_ofL r i x e
theorem shaped_pairs (L : List (Nat × Nat)) : SeqAt.shaped (.list (L.map pairD)) = true := by
  have h := shaped_iv (L.map fun p => ((0 : Addr), p))
  rw [List.map_map] at h; exact h
theorem lf_resD (n : Nat) (r : Res) : lf (resD n r) = true := by
  cases r with
  | arm k => rfl
  | blk i j => rfl
  | arr m =>
    have h : ∀ l : List Nat, lfL (l.map fun i => PyData.int (m i : Nat)) = true := by
      intro l
      induction l with
      | nil => rfl
      | cons a l ih => rw [List.map_cons]; unfold lfL; rw [ih]; rfl
    exact h _
theorem prs_small : ∀ L : List (Int × Int), PyData.depthAll (L.map prD) ≤ 1 ∧ numL (L.map prD) = 3 * L.length
  | [] => ⟨Nat.zero_le _, rfl⟩
  | p :: L => by
    obtain ⟨h1, h2⟩ := prs_small L
    refine ⟨Nat.max_le.mpr ⟨Nat.le_refl _, h1⟩, ?_⟩
    show 3 + numL (L.map prD) = _
    rw [h2, List.length_cons]; omega
theorem eqv_pairs (L : List (Nat × Nat)) : PyData.eqv (.list (L.map pairD)) (.list []) = L.isEmpty := by
  cases L <;> rfl
theorem tour_snoc {n : Nat} {p : Int × Int} : ∀ {L : List (Int × Int)} {m mi : Nat → Nat}, tourN n m L = .arr mi → tourN n m (L ++ [p]) = dueN n mi p.1 p.2
  | [], m, mi, h => by
    have e : m = mi := by
      have z : Res.arr m = Res.arr mi := h
      exact Res.arr.inj z
    subst e
    show (match dueN n m p.1 p.2 with | .arr m' => tourN n m' [] | r => r) = _
    cases dueN n m p.1 p.2 <;> rfl
  | x :: L, m, mi, h => by
    rw [tour_cons] at h
    show (match dueN n m x.1 x.2 with | .arr m' => tourN n m' (L ++ [p]) | r => r) = _
    cases e : dueN n m x.1 x.2 with
    | arm k => rw [e] at h; cases h
    | blk i j => rw [e] at h; cases h
    | arr m' => rw [e] at h; exact tour_snoc h
theorem tour_arr {n : Nat} : ∀ {L : List (Int × Int)} {m mi : Nat → Nat}, Prd n m → ¬ Crs n m → tourN n m L = .arr mi → Prd n mi ∧ ¬ Crs n mi
  | [], m, mi, hp, hx, h => by
    have e : m = mi := by
      have z : Res.arr m = Res.arr mi := h
      exact Res.arr.inj z
    subst e; exact ⟨hp, hx⟩
  | x :: L, m, mi, hp, hx, h => by
    rw [tour_cons] at h
    cases e : dueN n m x.1 x.2 with
    | arm k => rw [e] at h; cases h
    | blk i j => rw [e] at h; cases h
    | arr m' =>
      rw [e] at h
      obtain ⟨a, b⟩ := due_arr hp hx e
      exact tour_arr a b h
theorem resD_small {n : Nat} (hn : n ≤ 24) (r : Res) : (resD n r).depth ≤ 2 ∧ numD (resD n r) ≤ 40 := by
  cases r with
  | arm k => exact ⟨by show 1 ≤ 2; decide, by show 3 ≤ 40; decide⟩
  | blk i j => exact ⟨by show 2 ≤ 2; decide, by show 5 ≤ 40; decide⟩
  | arr m =>
    have h : ∀ l : List Nat, PyData.depthAll (l.map fun i => PyData.int (m i : Nat)) = 0 ∧ numL (l.map fun i => PyData.int (m i : Nat)) = l.length := by
      intro l
      induction l with
      | nil => exact ⟨rfl, rfl⟩
      | cons a l ih =>
        rw [List.map_cons]
        refine ⟨?_, ?_⟩
        · show max 0 (PyData.depthAll _) = 0
          rw [ih.1]; rfl
        · show 1 + numL _ = _
          rw [ih.2, List.length_cons]; omega
    obtain ⟨h1, h2⟩ := h (List.range n)
    rw [List.length_range] at h2
    refine ⟨?_, ?_⟩
    · show PyData.depthAll _ + 1 ≤ 2
      unfold rowD; rw [h1]; decide
    · show numL _ + 1 ≤ 40
      unfold rowD; rw [h2]; omega
theorem two_small {d : PyData} (h1 : d.depth ≤ 2) (h2 : numD d ≤ 40) : PyData.depth (.list [d, d]) < 8 ∧ numD (.list [d, d]) ≤ 100000 := by
  constructor
  · show max d.depth (max d.depth 0) + 1 < 8
    omega
  · show (numD d + (numD d + 0)) + 1 ≤ 100000
    omega
def spRuns (K : PySem.W.Frag) : Sp := fun vs H Q _ => ∃ (b a c : Addr) (n N : Nat) (m : Nat → Nat), vs = [.ref b, .ref a, .ref c] ∧ BoxAt H b (N + 84) ∧ SqT K (hid H b) a (rowV n m) ∧ SqL K (hid H b) c (rowV n m) ∧ Prd n m ∧ ¬ Crs n m ∧ n ≤ 24 ∧ ∀ G, Ap b H G → BoxAt G b N → Q (.bl true) G
abbrev nRuns : List Str := ["_law_box_here", "_law_hall_here", "_law_soft", "_law_turn", "_law_tour", "_law_want", "_law_step", "_law_good", "_law_duo"]
theorem pairs_small : ∀ L : List (Nat × Nat), PyData.depthAll (L.map pairD) ≤ 1 ∧ numL (L.map pairD) = 3 * L.length
  | [] => ⟨Nat.zero_le _, rfl⟩
  | p :: L => by
    obtain ⟨h1, h2⟩ := pairs_small L
    refine ⟨Nat.max_le.mpr ⟨Nat.le_refl _, h1⟩, ?_⟩
    show 3 + numL (L.map pairD) = _
    rw [h2, List.length_cons]; omega
theorem two_lists {L : List (Nat × Nat)} (h : L.length ≤ 576) : PyData.depth (.list [.list (L.map pairD), .list (L.map pairD)]) < 8 ∧ numD (.list [.list (L.map pairD), .list (L.map pairD)]) ≤ 100000 := by
  obtain ⟨h1, h2⟩ := pairs_small L
  constructor
  · show max (PyData.depthAll (L.map pairD) + 1) (max (PyData.depthAll (L.map pairD) + 1) 0) + 1 < 8
    omega
  · show ((numL (L.map pairD) + 1) + ((numL (L.map pairD) + 1) + 0)) + 1 ≤ 100000
    omega
theorem one_list {L : List (Nat × Nat)} (h : L.length ≤ 576) : PyData.depth (.list (L.map pairD)) < 8 ∧ numD (.list (L.map pairD)) ≤ 100000 := by
  obtain ⟨h1, h2⟩ := pairs_small L
  constructor
  · show PyData.depthAll (L.map pairD) + 1 < 8
    omega
  · show numL (L.map pairD) + 1 ≤ 100000
    omega
theorem exs_len {n : Nat} (m : Nat → Nat) (hn : n ≤ 24) : (exsN n m).length ≤ 576 := by
  have := exsU_len (m := m) hn (begN m n).length
  unfold exsU at this
  rw [List.take_length] at this
  exact this
theorem lf_prs (L : List (Int × Int)) : lfL (L.map prD) = true := by
  induction L with
  | nil => rfl
  | cons p L ih => rw [List.map_cons]; unfold lfL; rw [ih]; rfl
def ofN (p : Nat × Nat) : Int × Int := ((p.1 : Int), (p.2 : Int))
theorem map_ofN (L : List (Nat × Nat)) : (L.map ofN).map prD = L.map pairD := by rw [List.map_map]; rfl
theorem dpAll_takeN {H : Hp} : ∀ {ds : List PyData} {xs : List V} {i : Nat}, DpAll K H xs ds → DpAll K H (xs.take i) (ds.take i)
  | [], _, i, h => by cases h; simp; exact .nil
  | d :: ds, _, 0, h => by simp; exact .nil
  | d :: ds, _, i + 1, h => by cases h with | cons a b => exact .cons a (dpAll_takeN b)
theorem shaped_rowD (n : Nat) (m : Nat → Nat) : SeqAt.shaped (.list (rowD n m)) = true := by
  have h := shaped_ints ((List.range n).map fun i => ((m i : Nat) : Int))
  rw [List.map_map] at h; exact h
theorem canLay_rowD (n : Nat) (m : Nat → Nat) : (PyData.list (rowD n m)).canLay0 = true := by
  have h : ∀ l : List Nat, PyData.canLayAll0 (l.map fun i => PyData.int (m i : Nat)) = true := by
    intro l
    induction l with
    | nil => rfl
    | cons a l ih => rw [List.map_cons]; unfold PyData.canLayAll0; rw [ih]; rfl
  exact h _
theorem dp_rowL {H : Hp} {p : Addr} {n : Nat} {m : Nat → Nat} (h : SqL K H p (rowV n m)) : Dp K H (.ref p) (.list (rowD n m)) := .lst h (dpAll_row2 _)
end
end K34

set_option Elab.async false
set_option linter.all false
set_option maxRecDepth 100000
set_option maxHeartbeats 4000000
namespace K34
open PySem PySem.Spec PyProof.Rows L2 Hs Hm
section
variable {P : Program} {w : World} {K : PySem.W.Frag} {mg : Str → Option Value} {base : Heap} {f : Addr} {fd : FuncData}
theorem blkOk_rl {N : List Str} {sc scope : Scope} {own : List (Str × Nat)} {env : Env} (h : BlkOk N sc scope own) : BlkOk N (relabel sc env) scope own := by
  refine ⟨h.kind, h.uniq, h.ix, fun y hy e => ?_, h.own⟩
  have gen : ∀ (ns : List (Str × NameKind)) (x : Str), (ns.lookup x = some .cell ∨ ns.lookup x = some .free) → ((ns.map fun (n, k) => if (k == NameKind.free && env.scope.kind == .function && env.kindOf n == some .cell) then (n, NameKind.cell) else (n, k)).lookup x = some .cell ∨ (ns.map fun (n, k) => if (k == NameKind.free && env.scope.kind == .function && env.kindOf n == some .cell) then (n, NameKind.cell) else (n, k)).lookup x = some .free) := by
    intro ns x
    induction ns with
    | nil => intro h; exact h
    | cons a ns ih =>
      obtain ⟨n, k⟩ := a
      intro h
      rw [List.map_cons]
      by_cases c : (x == n) = true
      · have e0 : List.lookup x ((n, k) :: ns) = some k := by rw [List.lookup_cons, c]
        rw [e0] at h
        by_cases d : (k == NameKind.free && env.scope.kind == .function && env.kindOf n == some .cell) = true
        · left
          simp only [d, if_true]
          rw [List.lookup_cons, c]
        · simp only [d]
          rw [if_neg Bool.false_ne_true, List.lookup_cons, c]
          exact h
      · have c : (x == n) = false := by simpa using c
        have e0 : List.lookup x ((n, k) :: ns) = List.lookup x ns := by rw [List.lookup_cons, c]
        rw [e0] at h
        have := ih h
        by_cases d : (k == NameKind.free && env.scope.kind == .function && env.kindOf n == some .cell) = true
        · simp only [d, if_true]
          rw [List.lookup_cons, c]; exact this
        · simp only [d]
          rw [if_neg Bool.false_ne_true, List.lookup_cons, c]; exact this
  exact gen _ _ (h.free y hy e)
def tupN (l : List Nat) : PyData := .tuple (l.map fun t => .int (t : Nat))
theorem perm_dpsG {α : Type} {D : α → PyData} {H : Hp} {xs ys : List V} (hp : xs.Perm ys) : ∀ {L : List α}, DpAll K H xs (L.map D) → ∃ L' : List α, DpAll K H ys (L'.map D) ∧ L'.Perm L := by
  induction hp with
  | nil => intro L h; exact ⟨L, h, .refl _⟩
  | cons x hp ih =>
    intro L h
    match L, h with
    | p :: L, .cons a b =>
      obtain ⟨L', h1, h2⟩ := ih b
      exact ⟨p :: L', .cons a h1, h2.cons _⟩
  | swap x y l =>
    intro L h
    match L, h with
    | p :: q :: L, .cons a (.cons b c) => exact ⟨q :: p :: L, .cons b (.cons a c), .swap _ _ _⟩
  | trans h1 h2 i1 i2 =>
    intro L h
    obtain ⟨L1, a1, a2⟩ := i1 h
    obtain ⟨L2, b1, b2⟩ := i2 a1
    exact ⟨L2, b1, b2.trans a2⟩
theorem tup_nat {H : Hp} {v : V} {l : List Nat} (h : Dp K H v (tupN l)) : ∃ p, v = .ref p ∧ SqT K H p (natV l) := by
  have inv : ∀ {l : List Nat} {xs : List V}, DpAll K H xs (l.map fun t => PyData.int (t : Nat)) → xs = natV l := by
    intro l
    induction l with
    | nil => intro xs h; cases h; rfl
    | cons y l ih =>
      intro xs h
      cases h with
      | cons a r =>
        cases a
        rw [ih r]; rfl
  cases h with
  | tup q r =>
    have e := inv r
    rw [e] at q
    exact ⟨_, rfl, q⟩
theorem dp_tupN {H : Hp} {p : Addr} {l : List Nat} (h : SqT K H p (natV l)) : Dp K H (.ref p) (tupN l) := .tup h (dpAll_row2 (m := fun y => y) _)
theorem lf_tups : ∀ L : List (List Nat), lfL (L.map tupN) = true
  | [] => rfl
  | l :: L => by
    have i : ∀ l : List Nat, lfL (l.map fun t => PyData.int (t : Nat)) = true := by
      intro l
      induction l with
      | nil => rfl
      | cons x l ih => show (true && lfL _) = true; rw [ih]; rfl
    show (lfL (l.map fun t => PyData.int (t : Nat)) && lfL (L.map tupN)) = true
    rw [i, lf_tups L]; rfl
theorem tups_get {H : Hp} {xs : List V} {L : List (List Nat)} {i : Nat} {x : V} (h : DpAll K H xs (L.map tupN)) (e : xs[i]? = some x) : ∃ t l, L[i]? = some l ∧ x = .ref t ∧ SqT K H t (natV l) := by
  have hx := dpAll_get h e
  have ll := dpAll_len h
  rw [List.length_map] at ll
  have il : i < L.length := by have := (List.getElem?_eq_some_iff.mp e).1; omega
  have el : L[i]? = some L[i] := List.getElem?_eq_getElem il
  rw [List.getD_eq_getElem?_getD, List.getElem?_map, el] at hx
  obtain ⟨t, rfl, hT⟩ := tup_nat hx
  exact ⟨t, _, el, rfl, hT⟩
theorem cd_code : ∀ l : List Nat, TS.code 24 (l.map fun t => ((t : Nat) : Int)) = ((cdN l : Nat) : Int)
  | [] => rfl
  | d :: r => by
    show (d : Int) * 24 ^ (r.map fun t => ((t : Nat) : Int)).length + TS.code 24 (r.map fun t => ((t : Nat) : Int)) = ((d * 24 ^ r.length + cdN r : Nat) : Int)
    rw [cd_code r, List.length_map, Int.natCast_add, Int.natCast_mul, Int.natCast_pow]; rfl
/-- sorting what stands in its order -/
theorem sort_tups {H : Hp} {acc ys : List V} {L : List (List Nat)} (hD : DpAll K H acc (L.map tupN)) (hc : (L.map cdN).Pairwise (· < ·)) (hp : ys.Perm acc) (hw : ys.Pairwise (fun x y => ∀ n m, TupI K H x n → TupI K H y m → TS.code 24 n ≤ TS.code 24 m)) : DpAll K H ys (L.map tupN) := by
  obtain ⟨L', d', p'⟩ := perm_dpsG hp.symm hD
  have ti : ∀ (i : Nat) (l : List Nat), L'[i]? = some l → ∃ x, ys[i]? = some x ∧ TupI K H x (l.map fun t => ((t : Nat) : Int)) := fun i l hi => by
    have ll := dpAll_len d'
    rw [List.length_map] at ll
    have li : i < ys.length := by rw [ll]; exact (List.getElem?_eq_some_iff.mp hi).1
    have hx : ys[i]? = some ys[i] := List.getElem?_eq_getElem li
    obtain ⟨t, l2, el, e2, hT⟩ := tups_get d' hx
    rw [hi] at el
    cases el
    exact ⟨_, hx, t, e2, by rw [List.map_map]; exact hT⟩
  have so : L'.Pairwise (fun a b => cdN a ≤ cdN b) := by
    rw [List.pairwise_iff_getElem]
    intro i j hi hj lt
    obtain ⟨x, ex, tx⟩ := ti i _ (List.getElem?_eq_getElem hi)
    obtain ⟨y, ey, ty⟩ := ti j _ (List.getElem?_eq_getElem hj)
    obtain ⟨i1, i2⟩ := List.getElem?_eq_some_iff.mp ex
    obtain ⟨j1, j2⟩ := List.getElem?_eq_some_iff.mp ey
    have w1 := List.pairwise_iff_getElem.mp hw i j i1 j1 lt
    rw [i2, j2] at w1
    have le := w1 _ _ tx ty
    rw [cd_code, cd_code] at le
    omega
  have hc2 : L.Pairwise (fun a b => cdN a < cdN b) := List.pairwise_map.mp hc
  have inj : ∀ a b, a ∈ L → b ∈ L → cdN a = cdN b → a = b := fun a b ha hb e => by
    obtain ⟨i, hi⟩ := List.mem_iff_getElem?.mp ha
    obtain ⟨j, hj⟩ := List.mem_iff_getElem?.mp hb
    obtain ⟨i1, rfl⟩ := List.getElem?_eq_some_iff.mp hi
    obtain ⟨j1, rfl⟩ := List.getElem?_eq_some_iff.mp hj
    rcases Nat.lt_trichotomy i j with z | z | z
    · have := List.pairwise_iff_getElem.mp hc2 i j i1 j1 z; omega
    · subst z; rfl
    · have := List.pairwise_iff_getElem.mp hc2 j i j1 i1 z; omega
  have eq : L' = L := List.Perm.eq_of_pairwise (le := fun a b => cdN a ≤ cdN b) (fun a b ha hb h1 h2 => inj a b (p'.mem_iff.mp ha) hb (Nat.le_antisymm h1 h2)) so (hc2.imp fun z => Nat.le_of_lt z) p'
  rw [eq] at d'
  exact d'
def spEv (K : PySem.W.Frag) (n : Nat) : Sp := fun vs H Q _ => ∃ (q : Nat), vs = [.int ((2 * q : Nat) : Int)] ∧ q ≤ 5 ∧ q < n ∧ ∀ p ys G, Same H G → H p = none → G p = some (.lst ys) → DpAll K (hid G p) ys ((evN (2 * q)).map tupN) → Q (.ref p) G
abbrev nEv : List Str := ["_law_size", "_law_found", "_law_mate", "_law_inner", "_law_head", "_law_its", "_law_tail"]
theorem scEv : FnScope nEv ["_law_size"] (defScope sEvery) := ⟨rfl, rfl, rfl, by decide +kernel, rfl, by decide +kernel, by decide +kernel⟩
theorem ok_ev_step {n : Nat} (F : Fun K "_law_every" "_law_every" sEvery f fd) (B : B0 mg) (msort : mg "sorted" = none) (G : FnOk P w K mg base CX0 n f fd ["_law_size"] (spEv K n)) (bG : Binds K fd ["_law_size"] []) (mG : mg "_law_every" = some (.ref f)) : FnOk P w K mg base CX0 (n + 1) f fd ["_law_size"] (spEv K (n + 1)) := by
  refine F.ok scEv (fun vs H Q E h => ?_) (fun cdv A outer s0 H vs Q E hr h => ?_)
  · obtain ⟨q, rfl, _⟩ := h; rfl
  obtain ⟨q, rfl, hq5, hqn, qq⟩ := h
  obtain ⟨dd, hdd, hs1⟩ : ∃ dd, (1 ≤ q → dd = 2 * q) ∧ 1 ≤ dd := by
    by_cases c : q = 0
    · exact ⟨1, fun z => by omega, Nat.le_refl _⟩
    · exact ⟨2 * q, fun _ => rfl, by omega⟩
  refine ⟨_, (pss_cons (ps_if (pt_cmpR op_eq (pv 0) pe_int (nomark _)) (pss_one (ps_ret (pe_lst (pa_cons (pe_tup pa_nil) pa_nil)))) pss_nil)
    (pss_cons (ps_set (i := 1) scEv.nd rfl (.inl rfl) (pe_lst pa_nil))
    (pss_cons (ps_for PassesOwn.never rfl (pi_range3 (by rfl) B.range (pa_cons pe_int (pa_cons (pv 0) (pa_cons pe_int pa_nil)))) (pg_name (i := 2) scEv.nd rfl (.inr rfl)) (pss_one (ps_for PassesOwn.never rfl (pi_list (pe_call G hr (by rfl) mG F.kp bG .nil pass0 (pa_cons (pe_op op_sub (pv 2) pe_int) pa_nil))) (pg_name (i := 3) scEv.nd rfl (.inl rfl)) (pss_cons (ps_set (i := 4) scEv.nd rfl (.inr rfl) (pe_op op_catU (pe_op op_catU (pe_tup (pa_cons (pv 2) pa_nil)) (pe_callTy call_tuple_of (by rfl) B.tuple PyProof.Rows.boot_tuple (pa_cons (pe_lc (own := [("_law_its", 5)]) (g := (gName 5)) (tt := tYes)  (by rfl) scEv.nd (pi_tup (pv 3)) (blkOk_by (own := [("_law_its", 5)]) (N := nEv) (sc := defScope sEvery) (by decide +kernel)) (fun _ _ _ _ _ => (pg_name (i := 5) scEv.nd rfl (.inl rfl))) (fun _ _ _ _ _ => pts_nil) (fun _ _ _ _ _ => (pe_op op_add (pv 5) pe_int))) pa_nil))) (pe_tup (pa_cons pe_int pa_nil))))
    (pss_one (ps_expr (pe_bm PySem.F.plainAttrs_list PySem.F.slot_list_extend PySem.F.type_list_extend mt_extend (pv 1) (pa_cons (pe_lc (own := [("_law_tail", 6)]) (g := (gName 6)) (tt := tYes) (te := (tOp (fun x y H Q => ∃ a b xs ys, x = .ref a ∧ y = .ref b ∧ SqT K H a xs ∧ SqT K H b ys ∧ xs.length + ys.length ≤ sizeLine ∧ ∀ p G, Same H G → SqT K G p (xs ++ ys) → Q (.ref p) G) (tVar 4) (tCB (fun xs H Q => ∃ p ys, xs = [.ref p] ∧ ((SqL K H p ys ∧ ∀ l, H l = none → Q (.ref l) (upd H l (.tup ys))) ∨ (SqT K H p ys ∧ Q (.ref p) H))) (tCons (tLc (iTup K (tVar 6)) (gName 5) tYes (tOp (rI0 fun i j => .int (i + j)) (tOp (rI0 fun i j => .int (i + j)) (tVar 5) (tVar 2)) (tC (.int 1))) [5]) tNil)))) (by rfl) scEv.nd (pi_list (pe_call G hr (by rfl) mG F.kp bG .nil pass0 (pa_cons (pe_op op_sub (pe_op op_sub (pv 0) (pv 2)) pe_int) pa_nil))) (blkOk_by (own := [("_law_tail", 6)]) (N := nEv) (sc := defScope sEvery) (by decide +kernel)) (fun _ _ _ _ _ => (pg_name (i := 6) scEv.nd rfl (.inl rfl))) (fun _ _ _ _ _ => pts_nil) (fun _ _ _ _ _ => (pe_op op_catU (pv 4) (pe_callTy call_tuple_of (by rfl) B.tuple PyProof.Rows.boot_tuple (pa_cons (pe_lc (own := [("_law_its", 5)]) (g := (gName 5)) (tt := tYes)  (by rfl) scEv.nd (pi_tup (pv 6)) (blkOk_rl (blkOk_by (own := [("_law_its", 5)]) (N := nEv) (sc := { kind := ScopeKind.function, names := [(".0", NameKind.local), ("_law_tail", NameKind.local), ("tuple", NameKind.globalImplicit), ("_law_head", NameKind.free), ("_law_mate", NameKind.free)], isGenerator := false, isCoroutine := false }) (by decide +kernel))) (fun _ _ _ _ _ => (pg_name (i := 5) scEv.nd rfl (.inl rfl))) (fun _ _ _ _ _ => pts_nil) (fun _ _ _ _ _ => (pe_op op_add (pe_op op_add (pv 5) (pv 2)) pe_int))) pa_nil))))) pa_nil))))))))
    (pss_one (ps_ret (pe_callB (cr_sortV (d := dd) (B := 24) hs1) (by rfl) msort (by decide +kernel) (pa_cons (pv 1) pa_nil))))))), ?_⟩
  refine ⟨_, rfl, rfl, _, rfl, ?_⟩
  by_cases c0 : q = 0
  · subst c0
    rw [decide_eq_true (show V.int ((2 * 0 : Nat) : Int) = V.int 0 from rfl)]
    refine iteT ?_
    refine ⟨by show 0 ≤ sizeLine; decide, fun t nt => ⟨by show 1 ≤ sizeLine; decide, fun l nl => ?_⟩⟩
    have st := same_new (o := .tup []) nt
    have sl := same_new (o := .lst [.ref t]) nl
    have tl : t ≠ l := ne_of_none (upd_same (H := H) (a := t) (o := .tup [])) nl
    exact qq l _ _ (st.trans sl) (st.free nl) upd_same (.cons (dp_tupN (l := []) (SqT.of (by rw [hid_ne tl]; exact sl _ _ upd_same))) .nil)
  have q1 : 1 ≤ q := by omega
  rw [decide_eq_false (show ¬ V.int ((2 * q : Nat) : Int) = V.int 0 from fun z => by injection z with z; omega)]
  refine iteF ?_
  try unfold tNext
  obtain ⟨ev1, ev2, ev3, ev4, ev5⟩ := ev_ok q1 hq5
  have hd2 := hdd q1
  refine ⟨by show 0 ≤ sizeLine; decide, fun D nD => ?_⟩
  have rg : RgC 1 ((2 * q : Nat) : Int) 2 q := by
    rcases (show q = 1 ∨ q = 2 ∨ q = 3 ∨ q = 4 ∨ q = 5 by omega) with rfl | rfl | rfl | rfl | rfl <;> exact ⟨by decide, by decide, by decide, by decide⟩
  refine ⟨_, rfl, 1, ((2 * q : Nat) : Int), 2, q, rfl, rg, for_it (walk_rangeC (lo := 1) (c := 2) (n := q)) (fun i σ W => (∃ y2 y3 y4, σ = [some (.int ((2 * q : Nat) : Int)), some (.ref D), y2, y3, y4, none, none]) ∧ LcI K H D ((evU (2 * q) i).map tupN) W)
    ⟨⟨_, _, _, rfl⟩, lcI_0 nD⟩ (fun _ _ _ _ _ => trivial) (fun i x σ W W' hi p y => ?_) (fun σ W p => ?_)⟩
  · obtain ⟨⟨y2, y3, y4, rfl⟩, lc⟩ := p
    obtain ⟨rfl, rfl⟩ := y
    have lenU : (evU (2 * q) i).length < 64 := by
      have : (evU (2 * q) q).length < 64 := by rw [← ev1]; exact ev4
      have mono : ∀ d, (evU (2 * q) i).length ≤ (evU (2 * q) (i + d)).length := by
        intro d
        induction d with
        | zero => exact Nat.le_refl _
        | succ d ih => have e := congrArg List.length (evU_succ (2 * q) (i + d)); rw [List.length_append] at e; show _ ≤ (evU (2 * q) (i + d + 1)).length; omega
      have := mono (q - i)
      rw [show i + (q - i) = q by omega] at this
      omega
    have lenV : (evU (2 * q) (i + 1)).length < 64 := by
      have : (evU (2 * q) q).length < 64 := by rw [← ev1]; exact ev4
      have mono : ∀ d, (evU (2 * q) (i + 1)).length ≤ (evU (2 * q) (i + 1 + d)).length := by
        intro d
        induction d with
        | zero => exact Nat.le_refl _
        | succ d ih => have e := congrArg List.length (evU_succ (2 * q) (i + 1 + d)); rw [List.length_append] at e; show _ ≤ (evU (2 * q) (i + 1 + d + 1)).length; omega
      have := mono (q - i - 1)
      rw [show i + 1 + (q - i - 1) = q by omega] at this
      omega
    refine ⟨_, rfl, _, _, rfl, rfl, i, ?_, by omega, by omega, fun p ys G1 s1 np ep dp => ?_⟩
    · show [V.int (1 + (i : Nat) * 2 - 1)] = [V.int ((2 * i : Nat) : Int)]
      rw [show (1 + ((i : Nat) : Int) * 2 - 1) = ((2 * i : Nat) : Int) by omega]
    have lc1 := lc.mono s1
    obtain ⟨_, acc0, eD0, _⟩ := id lc
    have pD : p ≠ D := fun z => by rw [z, eD0] at np; cases np
    obtain ⟨_, acc1, eD1, _⟩ := id lc1
    have ep1 : (hid G1 D) p = some (.lst ys) := by rw [hid_ne pD]; exact ep
    have dp1 : DpAll K (hid G1 D) ys ((evN (2 * i)).map tupN) := st_dps (st_hidL eD1) (lf_tups _) (same_dps (hid_same G1 p) dp)
    have ly := dpAll_len dp
    rw [List.length_map] at ly
    refine ⟨p, rfl, ⟨_, SqL.of ep⟩, for_it (walk_list (K := K) (a := p) (xs := ys)) (fun j σ W => (∃ y3 y4, σ = [some (.int ((2 * q : Nat) : Int)), some (.ref D), some (.int (1 + (i : Nat) * 2)), y3, y4, none, none]) ∧ LcI K H D ((evU (2 * q) i ++ ((evN (2 * i)).take j).flatMap (evA (2 * q) i)).map tupN) W ∧ Same (hid G1 D) (hid W D))
      ⟨⟨_, _, rfl⟩, by rw [List.take_zero, List.flatMap_nil, List.append_nil]; exact lc1, Same.refl _⟩ (fun j σ W _ z => SqL.of (hid_same W D _ _ (z.2.2 _ _ ep1))) (fun j x σ W W' hj z y => ?_) (fun σ W z => ?_)⟩
    · obtain ⟨⟨y3, y4, rfl⟩, lc, sg⟩ := z
      obtain ⟨rfl, ex⟩ := y
      obtain ⟨ta, a, ea, rfl, hTa⟩ := tups_get dp1 ex
      have hTaW := same_tup (hid_same W' D) (same_tup sg hTa)
      have la : a.length = 2 * i := by
        by_cases c : i = 0
        · subst c
          have : a ∈ evN (2 * 0) := List.mem_of_getElem? ea
          have : a = [] := by simpa [ev_zero] using this
          rw [this]; rfl
        · exact ((ev_ok (q := i) (by omega) (by omega)).2.1 a (List.mem_of_getElem? ea)).1
      refine ⟨_, rfl, by show 1 ≤ sizeLine; decide, fun h1 nh1 => ?_⟩
      have t1 := same_new (o := .tup [.int (1 + (i : Nat) * 2)]) nh1
      refine ⟨_, rfl, ta, rfl, ⟨_, same_tup t1 hTaW⟩, fun C nC => ?_⟩
      refine lc_it (walk_tup (K := K) (a := ta) (xs := natV a)) (fun k J => Same (upd W' h1 (.tup [.int (1 + (i : Nat) * 2)])) J ∧ J C = some (.lst (natV ((a.take k).map (· + 1))))) ⟨same_new nC, upd_same⟩ (fun k J _ z => same_tup z.1 (same_tup t1 hTaW)) (fun k x J Ja hk z y => ?_) (fun J z => ?_)
      · obtain ⟨sj, eC⟩ := z
        obtain ⟨rfl, ex⟩ := y
        obtain ⟨y, ey, rfl⟩ := natV_get ex
        refine ⟨rfl, _, rfl, _, _, rfl, rfl, _, eC, by rw [natV_len, List.length_map, List.length_take]; exact small1000 (by omega), same_grow nC sj, ?_⟩
        rw [upd_same, take_snoc ey, List.map_append]
        unfold natV
        rw [List.map_append]; rfl
      obtain ⟨sj, eC⟩ := z
      rw [natV_len, List.take_length] at eC
      refine ⟨C, _, rfl, .inl ⟨SqL.of eC, fun h2 nh2 => ?_⟩⟩
      have t2 := same_new (o := .tup (natV (a.map (· + 1)))) nh2
      have e1 := t2 _ _ (sj _ _ (upd_same (H := W') (a := h1) (o := .tup [.int (1 + (i : Nat) * 2)])))
      refine ⟨h1, h2, _, _, rfl, rfl, SqT.of e1, SqT.of upd_same, sizeBig (by rw [natV_len, List.length_map]; show 1 + _ ≤ 1000; omega), fun h3 G3 s3 hh3 => ⟨by show 1 ≤ sizeLine; decide, fun h4 nh4 => ?_⟩⟩
      have t4 := same_new (o := .tup [.int 0]) nh4
      refine ⟨h3, h4, _, _, rfl, rfl, same_tup t4 hh3, SqT.of upd_same, sizeBig (by rw [List.length_append, natV_len, List.length_map]; show 1 + _ + 1 ≤ 1000; omega), fun hd G5 s5 hhd => ?_⟩
      have ehd : [V.int (1 + (i : Nat) * 2)] ++ natV (a.map (· + 1)) ++ [.int 0] = natV ((2 * i + 1) :: (a.map (· + 1) ++ [0])) := by
        unfold natV
        rw [List.map_cons, List.map_append]
        show V.int (1 + ((i : Nat) : Int) * 2) :: (_ ++ [V.int 0]) = V.int ((2 * i + 1 : Nat) : Int) :: (_ ++ [V.int ((0 : Nat) : Int)])
        rw [show (1 + ((i : Nat) : Int) * 2) = ((2 * i + 1 : Nat) : Int) by omega]; rfl
      rw [ehd] at hhd
      have sW5 := (((t1.trans sj).trans t2).trans s3).trans (t4.trans s5)
      have lc5 := lc.mono sW5
      obtain ⟨_, acc5, eD5, _⟩ := id lc5
      refine ⟨_, rfl, .inl ⟨rfl, _, SqL.of eD5⟩, ?_⟩
      refine ⟨_, rfl, _, rfl, _, _, rfl, rfl, _, _, rfl, rfl, q - i - 1, ?_, by omega, by omega, fun p2 y2 G6 s6 np2 ep2 dp2 => ⟨p2, rfl, ⟨_, SqL.of ep2⟩, fun E' nE => ?_⟩⟩
      · show [V.int (((2 * q : Nat) : Int) - (1 + (i : Nat) * 2) - 1)] = [V.int ((2 * (q - i - 1) : Nat) : Int)]
        rw [show (((2 * q : Nat) : Int) - (1 + ((i : Nat) : Int) * 2) - 1) = ((2 * (q - i - 1) : Nat) : Int) by omega]
      have ly2 := dpAll_len dp2
      rw [List.length_map] at ly2
      have lenT : (evN (2 * (q - i - 1))).length < 64 := by
        by_cases c : q - i - 1 = 0
        · rw [c]; decide
        · exact (ev_ok (q := q - i - 1) (by omega) (by omega)).2.2.2.1
      obtain ⟨hdL, ehL⟩ : ∃ hdL, hdL = (2 * i + 1) :: (a.map (· + 1) ++ [0]) := ⟨_, rfl⟩
      rw [← ehL] at hhd
      have lh : hdL.length = 2 * i + 2 := by rw [ehL, List.length_cons, List.length_append, List.length_map, la]; rfl
      refine lc_it (walk_list (K := K) (a := p2) (xs := y2)) (fun k J => LcI K G6 E' ((((evN (2 * (q - i - 1))).take k).map fun t => hdL ++ t.map (· + (2 * i + 1) + 1)).map tupN) J) (lcI_0 nE) (fun k J _ z => z.same.seq (SqL.of ep2)) (fun k x J Ja hk z y => ?_) (fun J z => ?_)
      · obtain ⟨rfl, ex⟩ := y
        obtain ⟨tb, bl, eb, rfl, hTb⟩ := tups_get dp2 ex
        have lb : bl.length ≤ 10 := by
          by_cases c : q - i - 1 = 0
          · rw [c] at eb
            have : bl ∈ evN (2 * 0) := List.mem_of_getElem? eb
            have : bl = [] := by simpa [ev_zero] using this
            rw [this]; exact Nat.zero_le _
          · have := ((ev_ok (q := q - i - 1) (by omega) (by omega)).2.1 bl (List.mem_of_getElem? eb)).1
            omega
        have hTbJ := same_tup ((hid_same G6 p2).trans z.same) hTb
        refine ⟨rfl, _, rfl, _, rfl, tb, rfl, ⟨_, hTbJ⟩, fun C2 nC2 => ?_⟩
        refine lc_it (walk_tup (K := K) (a := tb) (xs := natV bl)) (fun u J2 => Same Ja J2 ∧ J2 C2 = some (.lst (natV ((bl.take u).map (· + (2 * i + 1) + 1))))) ⟨same_new nC2, upd_same⟩ (fun u J2 _ z => same_tup z.1 hTbJ) (fun u x J2 Jb hu z2 y => ?_) (fun J2 z2 => ?_)
        · obtain ⟨sj2, eC2⟩ := z2
          obtain ⟨rfl, ex⟩ := y
          obtain ⟨y, ey, rfl⟩ := natV_get ex
          refine ⟨rfl, _, rfl, _, rfl, _, _, rfl, rfl, _, _, rfl, rfl, _, eC2, by rw [natV_len, List.length_map, List.length_take]; exact small1000 (by omega), same_grow nC2 sj2, ?_⟩
          rw [upd_same, take_snoc ey, List.map_append]
          unfold natV
          rw [List.map_append]
          show some (HO.lst (_ ++ [V.int (((y : Nat) : Int) + (1 + ((i : Nat) : Int) * 2) + 1)])) = some (HO.lst (_ ++ [V.int ((y + (2 * i + 1) + 1 : Nat) : Int)]))
          rw [show (((y : Nat) : Int) + (1 + ((i : Nat) : Int) * 2) + 1) = ((y + (2 * i + 1) + 1 : Nat) : Int) by omega]
        obtain ⟨sj2, eC2⟩ := z2
        rw [natV_len, List.take_length] at eC2
        refine ⟨C2, _, rfl, .inl ⟨SqL.of eC2, fun h6 nh6 => ?_⟩⟩
        have t6 := same_new (o := .tup (natV (bl.map (· + (2 * i + 1) + 1)))) nh6
        refine ⟨hd, h6, _, _, rfl, rfl, same_tup (((s6.trans z.same).trans sj2).trans t6) hhd, SqT.of upd_same, sizeBig (by rw [natV_len, natV_len, List.length_map]; omega), fun h7 G7 s7 hh7 => ?_⟩
        have z7 := z.mono ((sj2.trans t6).trans s7)
        obtain ⟨_, accE, eE7, _⟩ := id z7
        have ecat : natV hdL ++ natV (bl.map (· + (2 * i + 1) + 1)) = natV (hdL ++ bl.map (· + (2 * i + 1) + 1)) := by unfold natV; rw [List.map_append]
        rw [ecat] at hh7
        obtain ⟨acc, eA, lA, lI⟩ := z7.put nE (by rw [List.length_map, List.length_map, List.length_take]; omega) (dp_tupN (st_tup (st_hidL eE7) hh7))
        refine ⟨acc, eA, lA, ?_⟩
        rw [take_snoc eb, List.map_append, List.map_append]
        exact lI
      rw [ly2, List.take_length] at z
      have eA : (evN (2 * (q - i - 1))).map (fun t => hdL ++ t.map (· + (2 * i + 1) + 1)) = evA (2 * q) i a := by
        unfold evA
        rw [show 2 * q - 2 * i - 2 = 2 * (q - i - 1) by omega, ehL]
      rw [eA] at z
      obtain ⟨sE, zs, eE, dE⟩ := z
      have dE2 := same_dps (hid_same J E') dE
      have lc6 := lc5.mono (s6.trans sE)
      have eD6 := sE _ _ (s6 _ _ eD5)
      have lz := dpAll_len dE
      rw [List.length_map] at lz
      have lA := evA_len hq5 hi a
      obtain ⟨_, acc6, eD7, dA6⟩ := id lc6
      have ea6 : acc6 = acc5 := by rw [eD6] at eD7; cases eD7; rfl
      have l6 := dpAll_len dA6
      rw [List.length_map, List.length_append, ea6] at l6
      have lF : (((evN (2 * i)).take j).flatMap (evA (2 * q) i)).length + (evU (2 * q) i).length < 64 := by
        rw [evU_succ] at lenV
        rw [List.length_append] at lenV
        have : (((evN (2 * i)).take j).flatMap (evA (2 * q) i)).length ≤ ((evN (2 * i)).flatMap (evA (2 * q) i)).length := by
          have := congrArg (fun l => (l.flatMap (evA (2 * q) i)).length) (List.take_append_drop j (evN (2 * i)))
          simp only [List.flatMap_append, List.length_append] at this
          omega
        omega
      refine ⟨D, E', acc5, zs, rfl, rfl, eD6, eE, sizeBig (by omega), ⟨_, _, rfl⟩, ?_, ?_⟩
      · rw [take_snoc ea, List.flatMap_append, List.flatMap_cons, List.flatMap_nil, List.append_nil, ← List.append_assoc, List.map_append]
        exact lcI_ext lc6 nD eD6 dE2 (lf_tups _)
      · rw [hid_upd]
        exact sg.trans (hid_mono ((sW5.trans s6).trans sE))
    · obtain ⟨⟨y3, y4, rfl⟩, lc, sg⟩ := z
      rw [ly, List.take_length] at lc
      refine ⟨⟨_, _, _, rfl⟩, ?_⟩
      rw [evU_succ]; exact lc
  · obtain ⟨⟨y2, y3, y4, rfl⟩, lc⟩ := p
    rw [← ev1] at lc
    obtain ⟨s1, acc, eD, dA⟩ := lc
    have la := dpAll_len dA
    rw [List.length_map] at la
    have dJ := same_dps (hid_same W D) dA
    refine ⟨_, rfl, D, acc, rfl, .inr (SqL.of eD), by omega, fun x hx => ?_, fun ys p hp hw np => ?_⟩
    · obtain ⟨i, hi⟩ := List.mem_iff_getElem?.mp hx
      obtain ⟨t, l, el, rfl, hT⟩ := tups_get dJ hi
      obtain ⟨l1, l2⟩ := ev2 l (List.mem_of_getElem? el)
      refine ⟨l.map fun t => ((t : Nat) : Int), ⟨t, rfl, by rw [List.map_map]; exact hT⟩, by rw [List.length_map, hd2]; exact l1, fun z hz => ?_⟩
      obtain ⟨y, hy, rfl⟩ := List.mem_map.mp hz
      have := l2 y hy
      omega
    · have sp := same_new (o := .lst ys) np
      have dF := sort_tups dJ ev3 hp hw
      exact qq p ys _ (s1.trans sp) (s1.free np) upd_same (same_dps (same_hid sp np) dF)
theorem ok_ev (F : Fun K "_law_every" "_law_every" sEvery f fd) (B : B0 mg) (msort : mg "sorted" = none) (bG : Binds K fd ["_law_size"] []) (mG : mg "_law_every" = some (.ref f)) : ∀ n, FnOk P w K mg base CX0 n f fd ["_law_size"] (spEv K n)
  | 0 => by
    have no : ∀ vs H Q E, ¬ spEv K 0 vs H Q E := fun vs H Q E ⟨_, _, _, h, _⟩ => absurd h (Nat.not_lt_zero _)
    exact ⟨fun vs H Q E h => absurd h (no vs H Q E), fun _ _ _ H _ _ vs Q E _ _ _ _ h => absurd h (no vs H Q E)⟩
  | n + 1 => ok_ev_step F B msort (ok_ev F B msort bG mG n) bG mG
end
end K34

set_option Elab.async false
set_option linter.all false
set_option maxRecDepth 100000
set_option maxHeartbeats 4000000
namespace K34
open PySem PySem.Spec PyProof.Rows L2 Hs Hm
section
variable {P : Program} {w : World} {K : PySem.W.Frag} {mg : Str → Option Value} {base : Heap} {f : Addr} {fd : FuncData}
def chF (t c : Nat) : Nat → Nat
  | 0 => 1
  | k + 1 => chF t c k * (t - c + (k + 1)) / (k + 1)
def caF : Nat → Nat
  | 0 => 1
  | k + 1 => caF k * 2 * (2 * (k + 1) - 1) / (k + 2)
def amN (n : Nat) (s : Int) : Nat := if n = 0 then 1 else
  let st := Nat.gcd n (s % (n : Int)).toNat
  let pt := n / st
  if pt = 1 then caF (n / 2) else if pt = 2 then chF (n / 2) (n / 4) (n / 4) else if n / 2 % pt ≠ 0 then 0 else chF st (st / 2) (st / 2)
def spCd (K : PySem.W.Frag) : Sp := fun vs H Q _ => ∃ (a b : Nat), vs = [.int (a : Nat), .int (b : Nat)] ∧ Q (.int (Nat.gcd a b : Nat)) H
def muC (σ : L2.St) : Nat := match σ[1]? with | some (some (V.int i)) => i.toNat | _ => 0
abbrev nCd : List Str := ["one", "other"]
theorem scCd : FnScope nCd ["one", "other"] (defScope sCommonDivisor) := ⟨rfl, rfl, rfl, by decide +kernel, rfl, by decide +kernel, by decide +kernel⟩
theorem ok_cd {k : Nat} (F : Fun K "common_divisor" "common_divisor" sCommonDivisor f fd) : FnOk P w K mg base CX0 (k + 1) f fd ["one", "other"] (spCd K) := by
  refine F.ok scCd (fun vs H Q E h => ?_) (fun cdv A outer s H vs Q E hr h => ?_)
  · obtain ⟨a, b, rfl, _⟩ := h; rfl
  obtain ⟨a, b, rfl, q⟩ := h
  refine ⟨_, (pss_cons (ps_while PassesOwn.never (pt_cmpR op_ne (pv 1) pe_int (nomark _)) (pss_one (ps_par (i := 0) (j := 1) (by rfl) scCd.nd rfl rfl (by decide) rfl rfl (pa_cons (pv 1) (pa_cons (pe_op op_mod (pv 0) (pv 1)) pa_nil)) (by rfl))))
    (pss_one (ps_ret (pv 0)))), ?_⟩
  refine while_by (fun σ W => ∃ x y : Nat, σ = [some (.int (x : Nat)), some (.int (y : Nat))] ∧ Nat.gcd x y = Nat.gcd a b ∧ W = H) (fun σ _ => muC σ) ⟨a, b, rfl, rfl, rfl⟩ (fun σ W p => ?_) (fun σ W Q Q' hq x => ?_)
  · obtain ⟨x, y, rfl, e, rfl⟩ := p
    refine ⟨_, rfl, rfl, _, rfl, ?_⟩
    by_cases c : y = 0
    · subst c
      refine iteF ⟨_, rfl, ?_⟩
      rw [Nat.gcd_zero_right] at e
      dsimp only at e ⊢
      rw [e]
      exact q
    · rw [show decide (V.int ((y : Nat) : Int) = V.int 0) = false from decide_eq_false (fun z => by injection z with z; omega)]
      refine iteT ⟨_, rfl, _, rfl, _, rfl, _, _, rfl, rfl, (by omega), ?_⟩
      refine ⟨_, _, rfl, ⟨y, x % y, ?_, ?_, rfl⟩, ?_⟩
      · show [some (V.int _), some (V.int _)] = _
        rw [Int.natCast_emod]
      · rw [Nat.gcd_comm, ← Nat.gcd_rec, Nat.gcd_comm]; exact e
      · show ((x : Int) % (y : Int)).toNat < ((y : Int)).toNat
        have := Nat.mod_lt x (show 0 < y by omega)
        omega
  · obtain ⟨v, e, r, u, e2, z⟩ := x
    exact ⟨v, e, r, u, e2, hq _ _ z⟩
def spCh (K : PySem.W.Frag) : Sp := fun vs H Q _ => ∃ (t c : Nat), vs = [.int (t : Nat), .int (c : Nat)] ∧ c ≤ t ∧ t ≤ 1000 ∧ Q (.int (chF t c c : Nat)) H
abbrev nCh : List Str := ["things", "chosen", "count", "k"]
theorem scCh : FnScope nCh ["things", "chosen"] (defScope sChoices) := ⟨rfl, rfl, rfl, by decide +kernel, rfl, by decide +kernel, by decide +kernel⟩
theorem ok_ch {k : Nat} (F : Fun K "choices" "choices" sChoices f fd) (B : B0 mg) : FnOk P w K mg base CX0 (k + 1) f fd ["things", "chosen"] (spCh K) := by
  refine F.ok scCh (fun vs H Q E h => ?_) (fun cdv A outer s H vs Q E hr h => ?_)
  · obtain ⟨t, c, rfl, _⟩ := h; rfl
  obtain ⟨t, c, rfl, ct, t1, q⟩ := h
  refine ⟨_, (pss_cons (ps_set (i := 2) scCh.nd rfl (.inl rfl) pe_int)
    (pss_cons (ps_for PassesOwn.never rfl (pi_range2 (by rfl) B.range (pa_cons pe_int (pa_cons (pe_op op_add (pv 1) pe_int) pa_nil))) (pg_name (i := 3) scCh.nd rfl (.inl rfl)) (pss_one (ps_set (i := 2) scCh.nd rfl (.inl rfl) (pe_op op_fdiv (pe_op op_mul (pv 2) (pe_op op_add (pe_op op_sub (pv 0) (pv 1)) (pv 3))) (pv 3)))))
    (pss_one (ps_ret (pv 2))))), ?_⟩
  refine ⟨_, rfl, _, _, rfl, rfl, _, _, rfl, ⟨by decide, by decide, by omega, by omega⟩, ?_⟩
  rw [show ((c : Int) + 1 - 1).toNat = c by omega]
  refine for_it (walk_range (lo := 1) (n := c)) (fun i σ W => (∃ y, σ = [some (.int (t : Nat)), some (.int (c : Nat)), some (.int (chF t c i : Nat)), y]) ∧ W = H) ⟨⟨_, rfl⟩, rfl⟩ (fun _ _ _ _ _ => trivial) (fun i x σ W W' hi p y => ?_) (fun σ W p => ?_)
  · obtain ⟨⟨y0, rfl⟩, rfl⟩ := p
    obtain ⟨rfl, rfl⟩ := y
    refine ⟨_, rfl, _, rfl, _, rfl, _, _, rfl, rfl, _, rfl, _, _, rfl, rfl, _, _, rfl, rfl, .inr ⟨?_, ?_⟩, _, rfl, _, _, rfl, rfl, ⟨?_, ?_⟩, ⟨⟨some (.int (1 + (i : Nat))), ?_⟩, rfl⟩⟩
    · show -(2 ^ 64) < (t : Int) - c + (1 + (i : Nat)); omega
    · show (t : Int) - c + (1 + (i : Nat)) < 2 ^ 64; omega
    · show (0 : Int) < 1 + (i : Nat); omega
    · show (1 : Int) + (i : Nat) < 1073741824; omega
    show [some (V.int _), some (V.int _), some (V.int _), _] = [some (V.int _), some (V.int _), some (V.int ((chF t c i * (t - c + (i + 1)) / (i + 1) : Nat) : Int)), _]
    rw [Int.natCast_ediv, Int.natCast_mul, show ((t - c + (i + 1) : Nat) : Int) = (t : Int) - c + (1 + i) by omega, show ((i + 1 : Nat) : Int) = 1 + (i : Int) by omega]
  · obtain ⟨⟨y0, rfl⟩, rfl⟩ := p
    exact ⟨_, rfl, q⟩
def spCa (K : PySem.W.Frag) : Sp := fun vs H Q _ => ∃ (t : Nat), vs = [.int (t : Nat)] ∧ t ≤ 1000 ∧ Q (.int (caF t : Nat)) H
abbrev nCa : List Str := ["pairs", "count", "k"]
theorem scCa : FnScope nCa ["pairs"] (defScope sCatalan) := ⟨rfl, rfl, rfl, by decide +kernel, rfl, by decide +kernel, by decide +kernel⟩
theorem ok_ca {k : Nat} (F : Fun K "catalan" "catalan" sCatalan f fd) (B : B0 mg) : FnOk P w K mg base CX0 (k + 1) f fd ["pairs"] (spCa K) := by
  refine F.ok scCa (fun vs H Q E h => ?_) (fun cdv A outer s H vs Q E hr h => ?_)
  · obtain ⟨t, rfl, _⟩ := h; rfl
  obtain ⟨t, rfl, t1, q⟩ := h
  refine ⟨_, (pss_cons (ps_set (i := 1) scCa.nd rfl (.inl rfl) pe_int)
    (pss_cons (ps_for PassesOwn.never rfl (pi_range2 (by rfl) B.range (pa_cons pe_int (pa_cons (pe_op op_add (pv 0) pe_int) pa_nil))) (pg_name (i := 2) scCa.nd rfl (.inl rfl)) (pss_one (ps_set (i := 1) scCa.nd rfl (.inl rfl) (pe_op op_fdiv (pe_op op_mul (pe_op op_mul (pv 1) pe_int) (pe_op op_sub (pe_op op_mul pe_int (pv 2)) pe_int)) (pe_op op_add (pv 2) pe_int)))))
    (pss_one (ps_ret (pv 1))))), ?_⟩
  refine ⟨_, rfl, _, _, rfl, rfl, _, _, rfl, ⟨by decide, by decide, by omega, by omega⟩, ?_⟩
  rw [show ((t : Int) + 1 - 1).toNat = t by omega]
  refine for_it (walk_range (lo := 1) (n := t)) (fun i σ W => (∃ y, σ = [some (.int (t : Nat)), some (.int (caF i : Nat)), y]) ∧ W = H) ⟨⟨_, rfl⟩, rfl⟩ (fun _ _ _ _ _ => trivial) (fun i x σ W W' hi p y => ?_) (fun σ W p => ?_)
  · obtain ⟨⟨y0, rfl⟩, rfl⟩ := p
    obtain ⟨rfl, rfl⟩ := y
    refine ⟨_, rfl, _, _, rfl, rfl, .inr ⟨by decide, by decide⟩, _, rfl, _, _, rfl, rfl, .inl ⟨by decide, by decide⟩, _, _, rfl, rfl, _, _, rfl, rfl, .inr ⟨?_, ?_⟩, _, rfl, _, _, rfl, rfl, _, _, rfl, rfl, ⟨?_, ?_⟩, ⟨⟨some (.int (1 + (i : Nat))), ?_⟩, rfl⟩⟩
    · show -(2 ^ 64) < 2 * (1 + (i : Int)) - 1; omega
    · show 2 * (1 + (i : Int)) - 1 < 2 ^ 64; omega
    · show (0 : Int) < 1 + (i : Nat) + 1; omega
    · show (1 : Int) + (i : Nat) + 1 < 1073741824; omega
    show [some (V.int _), some (V.int _), _] = [some (V.int _), some (V.int ((caF i * 2 * (2 * (i + 1) - 1) / (i + 2) : Nat) : Int)), _]
    rw [Int.natCast_ediv, Int.natCast_mul, Int.natCast_mul, show ((2 * (i + 1) - 1 : Nat) : Int) = 2 * (1 + (i : Int)) - 1 by omega, show ((i + 2 : Nat) : Int) = 1 + (i : Int) + 1 by omega]; rfl
  · obtain ⟨⟨y0, rfl⟩, rfl⟩ := p
    exact ⟨_, rfl, q⟩
def spAm (K : PySem.W.Frag) : Sp := fun vs H Q _ => ∃ (n : Nat) (s : Int), vs = [.int (n : Nat), .int s] ∧ n ≤ 1000 ∧ Q (.int (amN n s : Nat)) H
abbrev nAm : List Str := ["people", "seats", "pairs", "step", "parts"]
theorem scAm : FnScope nAm ["people", "seats"] (defScope sAlikeMany) := ⟨rfl, rfl, rfl, by decide +kernel, rfl, by decide +kernel, by decide +kernel⟩
theorem ok_am {k : Nat} (F : Fun K "alike_many" "alike_many" sAlikeMany f fd) {fCd : Addr} {dCd : FuncData} (Cd : Fx P w K mg base k "common_divisor" ["one", "other"] (spCd K) fCd dCd) {fCa : Addr} {dCa : FuncData} (Ca : Fx P w K mg base k "catalan" ["pairs"] (spCa K) fCa dCa) {fCh : Addr} {dCh : FuncData} (Ch : Fx P w K mg base k "choices" ["things", "chosen"] (spCh K) fCh dCh) : FnOk P w K mg base CX0 (k + 1) f fd ["people", "seats"] (spAm K) := by
  refine F.ok scAm (fun vs H Q E h => ?_) (fun cdv A outer s H vs Q E hr h => ?_)
  · obtain ⟨n, far, rfl, _⟩ := h; rfl
  obtain ⟨n, far, rfl, n1, q⟩ := h
  refine ⟨_, (pss_cons (ps_if (pt_cmpR op_eq (pv 0) pe_int (nomark _)) (pss_one (ps_ret pe_int)) pss_nil)
    (pss_cons (ps_set (i := 2) scAm.nd rfl (.inl rfl) (pe_op op_fdiv (pv 0) pe_int))
    (pss_cons (ps_set (i := 3) scAm.nd rfl (.inl rfl) (pe_call Cd.ok hr (by rfl) Cd.m Cd.k Cd.b .nil pass0 (pa_cons (pv 0) (pa_cons (pe_op op_mod (pv 1) (pv 0)) pa_nil))))
    (pss_cons (ps_set (i := 4) scAm.nd rfl (.inl rfl) (pe_op op_fdiv (pv 0) (pv 3)))
    (pss_cons (ps_if (pt_cmpR op_eq (pv 4) pe_int (nomark _)) (pss_one (ps_ret (pe_call Ca.ok hr (by rfl) Ca.m Ca.k Ca.b .nil pass0 (pa_cons (pv 2) pa_nil)))) pss_nil)
    (pss_cons (ps_if (pt_cmpR op_eq (pv 4) pe_int (nomark _)) (pss_one (ps_ret (pe_call Ch.ok hr (by rfl) Ch.m Ch.k Ch.b .nil pass0 (pa_cons (pv 2) (pa_cons (pe_op op_fdiv (pv 0) pe_int) pa_nil))))) pss_nil)
    (pss_cons (ps_if (pt_cmpR op_ne (pe_op op_mod (pv 2) (pv 4)) pe_int (nomark _)) (pss_one (ps_ret pe_int)) pss_nil)
    (pss_one (ps_ret (pe_call Ch.ok hr (by rfl) Ch.m Ch.k Ch.b .nil pass0 (pa_cons (pv 3) (pa_cons (pe_op op_fdiv (pv 3) pe_int) pa_nil)))))))))))), ?_⟩
  refine ⟨_, rfl, rfl, _, rfl, ?_⟩
  by_cases c0 : n = 0
  · subst c0
    exact iteT q
  rw [show decide (V.int ((n : Nat) : Int) = V.int 0) = false from decide_eq_false (fun z => by injection z with z; omega)]
  refine iteF ?_
  unfold amN at q
  rw [if_neg c0] at q
  try unfold tNext
  have g1 : Nat.gcd n (far % (n : Int)).toNat ∣ n := Nat.gcd_dvd_left _ _
  have g0 : 0 < Nat.gcd n (far % (n : Int)).toNat := Nat.gcd_pos_of_pos_left _ (by omega)
  have ge : ((far % (n : Int)).toNat : Int) = far % (n : Int) := Int.toNat_of_nonneg (Int.emod_nonneg _ (by omega))
  obtain ⟨gg, hg⟩ : ∃ gg, gg = Nat.gcd n (far % (n : Int)).toNat := ⟨_, rfl⟩
  have gn : gg ≤ n := by rw [hg]; exact Nat.gcd_le_left _ (by omega)
  rw [← hg] at q g0 g1
  refine ⟨_, rfl, _, _, rfl, rfl, ⟨by decide, by decide⟩, _, rfl, _, rfl, _, rfl, _, _, rfl, rfl, (by omega), n, (far % (n : Int)).toNat, by rw [ge]; rfl, ?_⟩
  rw [← hg]
  refine ⟨_, rfl, _, rfl, _, _, rfl, rfl, ⟨by omega, by omega⟩, ?_⟩
  have ep : ((n : Nat) : Int) / ((gg : Nat) : Int) = ((n / gg : Nat) : Int) := (Int.natCast_ediv n gg).symm
  have eh : ((n : Nat) : Int) / 2 = ((n / 2 : Nat) : Int) := by omega
  have e4 : ((n : Nat) : Int) / 4 = ((n / 4 : Nat) : Int) := by omega
  have eg : ((gg : Nat) : Int) / 2 = ((gg / 2 : Nat) : Int) := by omega
  have pp : 0 < n / gg := Nat.div_pos gn g0
  dsimp only at q ⊢
  rw [ep, eh]
  generalize n / gg = pt at q pp ⊢
  refine ⟨_, rfl, rfl, _, rfl, ?_⟩
  by_cases c1 : pt = 1
  · subst c1
    rw [if_pos rfl] at q
    refine iteT ⟨_, rfl, n / 2, rfl, by omega, q⟩
  rw [if_neg c1] at q
  rw [show decide (V.int ((pt : Nat) : Int) = V.int 1) = false from decide_eq_false (fun z => by injection z with z; omega)]
  refine iteF ?_
  refine ⟨_, rfl, rfl, _, rfl, ?_⟩
  by_cases c2 : pt = 2
  · subst c2
    rw [if_pos rfl] at q
    refine iteT ⟨_, rfl, _, rfl, _, _, rfl, rfl, ⟨by decide, by decide⟩, n / 2, n / 4, by rw [← e4]; rfl, by omega, by omega, q⟩
  rw [if_neg c2] at q
  rw [show decide (V.int ((pt : Nat) : Int) = V.int 2) = false from decide_eq_false (fun z => by injection z with z; omega)]
  refine iteF ?_
  refine ⟨_, rfl, _, rfl, _, _, rfl, rfl, (by omega), rfl, _, rfl, ?_⟩
  by_cases c3 : n / 2 % pt = 0
  · rw [if_neg (by simpa using c3)] at q
    rw [show decide (V.int (((n / 2 : Nat) : Int) % ((pt : Nat) : Int)) = V.int 0) = true from decide_eq_true (by rw [← Int.natCast_emod, c3]; rfl)]
    refine iteF ⟨_, rfl, _, rfl, _, _, rfl, rfl, ⟨by decide, by decide⟩, gg, gg / 2, by rw [← eg]; rfl, by omega, by omega, q⟩
  · rw [if_pos c3] at q
    rw [show decide (V.int (((n / 2 : Nat) : Int) % ((pt : Nat) : Int)) = V.int 0) = false from decide_eq_false (fun z => by rw [← Int.natCast_emod] at z; injection z with z; omega)]
    exact iteT q
end
end K34

set_option Elab.async false
set_option linter.all false
set_option maxRecDepth 100000
set_option maxHeartbeats 4000000
namespace K34
open PySem PySem.Spec PyProof.Rows L2 Hs Hm
section
variable {P : Program} {w : World} {K : PySem.W.Frag} {mg : Str → Option Value} {base : Heap} {f : Addr} {fd : FuncData}
theorem row_ext {n : Nat} {m m' : Nat → Nat} (h : ∀ i, i < n → m i = m' i) : rowV n m = rowV n m' := by
  unfold rowV
  apply List.map_congr_left
  intro i hi
  rw [h i (List.mem_range.mp hi)]
theorem row_inj {n : Nat} {m m' : Nat → Nat} (h : rowV n m = rowV n m') : ∀ i, i < n → m i = m' i := fun i hi => by
  have e : (rowV n m)[i]? = (rowV n m')[i]? := by rw [h]
  unfold rowV at e
  rw [List.getElem?_map, List.getElem?_map, List.getElem?_range hi] at e
  have := Option.some.inj e
  injection this with z
  omega
/-- a list that is being filled, seat by seat -/
def Fil (n : Nat) (far : Int) (m : Nat → Nat) (i : Nat) (L : List Nat) : Prop := L.length = n ∧ ∀ k, k < i → L[psN n far k]? = some (psN n far (m k))
theorem fil0 {n : Nat} {far : Int} {m : Nat → Nat} : Fil n far m 0 (List.replicate n 0) := ⟨List.length_replicate, fun k h => absurd h (Nat.not_lt_zero _)⟩
theorem Fil.step {n : Nat} {far : Int} {m : Nat → Nat} {i : Nat} {L : List Nat} (h : Fil n far m i L) (hi : i < n) : Fil n far m (i + 1) (L.set (psN n far i) (psN n far (m i))) := by
  refine ⟨by rw [List.length_set]; exact h.1, fun k hk => ?_⟩
  rw [List.getElem?_set]
  by_cases c : k = i
  · rw [c, if_pos rfl, if_pos (by rw [h.1]; exact psN_lt (by omega) _ _)]
  · rw [if_neg (fun z => c (psN_inj (by omega) hi z.symm))]
    exact h.2 k (by omega)
theorem Fil.done {n : Nat} {far : Int} {m : Nat → Nat} {L : List Nat} (h : Fil n far m n L) : natV L = rowV n (mvN n far m) := by
  rw [natV_row, h.1]
  apply row_ext
  intro i hi
  have e := h.2 (psN n (-far) i) (psN_lt (by omega) _ _)
  rw [psN_back hi] at e
  rw [List.getD_eq_getElem?_getD, e]; rfl
def spTurned (K : PySem.W.Frag) : Sp := fun vs H Q _ => ∃ (a : Addr) (n : Nat) (m : Nat → Nat) (far : Int), vs = [.ref a, .int far] ∧ SqA K H a (rowV n m) ∧ n ≤ 24 ∧ ∀ p G, Same H G → H p = none → G p = some (.tup (rowV n (mvN n far m))) → Q (.ref p) G
abbrev nTurned : List Str := ["arrangement", "seats", "people", "partners", "person", "partner"]
theorem scTurned : FnScope nTurned ["arrangement", "seats"] (defScope sTurned) := ⟨rfl, rfl, rfl, by decide +kernel, rfl, by decide +kernel, by decide +kernel⟩
theorem ok_turned {k : Nat} (F : Fun K "turned" "turned" sTurned f fd) (B : B0 mg) : FnOk P w K mg base CX0 (k + 1) f fd ["arrangement", "seats"] (spTurned K) := by
  refine F.ok scTurned (fun vs H Q E h => ?_) (fun cdv A outer s H vs Q E hr h => ?_)
  · obtain ⟨a, n, m, far, rfl, _⟩ := h; rfl
  obtain ⟨a, n, m, far, rfl, hA, hn, q⟩ := h
  rcases hA with hA | hA
  · refine ⟨_, (pss_cons (ps_set (i := 2) scTurned.nd rfl (.inl rfl) (pe_callB call_len_seq (by rfl) B.len PySem.boot_len (pa_cons (pv 0) pa_nil)))
    (pss_cons (ps_set (i := 3) scTurned.nd rfl (.inl rfl) (pe_op op_rep (pe_lst (pa_cons pe_int pa_nil)) (pv 2)))
    (pss_cons (ps_for PassesOwn.never rfl (pi_enT (by rfl) B.enumerate (pa_cons (pv 0) pa_nil)) (pg_tup rfl (pgs_cons (pg_name (i := 4) scTurned.nd rfl (.inl rfl)) (pgs_cons (pg_name (i := 5) scTurned.nd rfl (.inl rfl)) pgs_nil))) (pss_one (ps_asg (pe_op op_mod (pe_op op_add (pv 5) (pv 1)) (pv 2)) (pg_sub (pv 3) (pe_op op_mod (pe_op op_add (pv 4) (pv 1)) (pv 2)) set_list))))
    (pss_one (ps_ret (pe_callTy call_tuple_of (by rfl) B.tuple PyProof.Rows.boot_tuple (pa_cons (pv 3) pa_nil))))))), ?_⟩
    refine ⟨_, rfl, a, _, rfl, .inr hA, ?_⟩
    rw [rowV_len]
    refine ⟨(by show 1 ≤ sizeLine; decide), fun l0 n0 => ⟨_, rfl, l0, _, _, rfl, rfl, upd_same, by omega, by omega, ?_, fun l nl => ?_⟩⟩
    · rw [sizeLine_eq]; show 1 * ((n : Int)).toNat ≤ _; omega
    have en : ((n : Int)).toNat = n := by omega
    rw [en, rep_zero]
    have s1 : Same H (upd H l0 (.lst [.int 0])) := same_new n0
    have s2 := s1.trans (same_new (o := .lst (natV (List.replicate n 0))) nl)
    have nlH : H l = none := s1.free nl
    refine ⟨_, rfl, a, _, rfl, (same_tup s2 hA), for_it (walk_enT (xs := rowV n m)) (fun i σ G => ∃ (y4 y5 : Option V) (L : List Nat), σ = [some (.ref a), some (.int far), some (.int (n : Nat)), some (.ref l), y4, y5] ∧ G l = some (.lst (natV L)) ∧ Fil n far m i L ∧ Same H G)
      ⟨_, _, _, rfl, upd_same, fil0, s2⟩ (fun i σ G _ p => by obtain ⟨_, _, _, _, _, _, sm⟩ := p; exact (same_tup sm hA)) (fun i x σ G G' hi p y => ?_) (fun σ G p => ?_)⟩
    · obtain ⟨y4, y5, L, rfl, eL, hF, sm⟩ := p
      obtain ⟨t, u, v, rfl, nt, rfl, eu, ev⟩ := y
      cases eu
      obtain ⟨_, rfl⟩ := rowV_get ev
      have st : Same G (upd G t (.tup [.int (i : Nat), .int (m i : Nat)])) := same_new nt
      have hi2 : i < n := by rw [rowV_len] at hi; exact hi
      have h0 : 0 < n := by omega
      have ep := psN_cast h0 far i
      have ev2 := psN_cast h0 far (m i)
      refine ⟨t, _, rfl, SqT.of upd_same, rfl, _, _, rfl, _, _, rfl, rfl, ?_⟩
      refine ⟨_, rfl, _, rfl, _, _, rfl, rfl, _, rfl, _, _, rfl, rfl, (by omega), _, rfl, _, rfl, _, rfl, _, _, rfl, rfl, _, rfl, _, _, rfl, rfl, (by omega), ?_⟩
      dsimp only
      rw [← ep, ← ev2]
      refine ⟨l, _, _, psN n far i, rfl, rfl, st _ _ eL, ixN_nat (by rw [natV_len, hF.1]; exact psN_lt h0 _ _), ?_⟩
      rw [natV_set]
      exact ⟨_, _, _, rfl, upd_same, hF.step hi2, same_grow nlH (sm.trans st)⟩
    · obtain ⟨y4, y5, L, rfl, eL, hF, sm⟩ := p
      rw [rowV_len] at hF
      refine ⟨_, rfl, l, _, rfl, .inl ⟨SqL.of eL, fun t nt => ?_⟩⟩
      exact q t _ (sm.trans (same_new nt)) (sm.free nt) (by rw [upd_same, hF.done])
  · refine ⟨_, (pss_cons (ps_set (i := 2) scTurned.nd rfl (.inl rfl) (pe_callB call_len_seq (by rfl) B.len PySem.boot_len (pa_cons (pv 0) pa_nil)))
    (pss_cons (ps_set (i := 3) scTurned.nd rfl (.inl rfl) (pe_op op_rep (pe_lst (pa_cons pe_int pa_nil)) (pv 2)))
    (pss_cons (ps_for PassesOwn.never rfl (pi_enum (by rfl) B.enumerate (pa_cons (pv 0) pa_nil)) (pg_tup rfl (pgs_cons (pg_name (i := 4) scTurned.nd rfl (.inl rfl)) (pgs_cons (pg_name (i := 5) scTurned.nd rfl (.inl rfl)) pgs_nil))) (pss_one (ps_asg (pe_op op_mod (pe_op op_add (pv 5) (pv 1)) (pv 2)) (pg_sub (pv 3) (pe_op op_mod (pe_op op_add (pv 4) (pv 1)) (pv 2)) set_list))))
    (pss_one (ps_ret (pe_callTy call_tuple_of (by rfl) B.tuple PyProof.Rows.boot_tuple (pa_cons (pv 3) pa_nil))))))), ?_⟩
    refine ⟨_, rfl, a, _, rfl, .inl hA, ?_⟩
    rw [rowV_len]
    refine ⟨(by show 1 ≤ sizeLine; decide), fun l0 n0 => ⟨_, rfl, l0, _, _, rfl, rfl, upd_same, by omega, by omega, ?_, fun l nl => ?_⟩⟩
    · rw [sizeLine_eq]; show 1 * ((n : Int)).toNat ≤ _; omega
    have en : ((n : Int)).toNat = n := by omega
    rw [en, rep_zero]
    have s1 : Same H (upd H l0 (.lst [.int 0])) := same_new n0
    have s2 := s1.trans (same_new (o := .lst (natV (List.replicate n 0))) nl)
    have nlH : H l = none := s1.free nl
    refine ⟨_, rfl, a, _, rfl, ((s2).seq hA), for_it (walk_enum (xs := rowV n m)) (fun i σ G => ∃ (y4 y5 : Option V) (L : List Nat), σ = [some (.ref a), some (.int far), some (.int (n : Nat)), some (.ref l), y4, y5] ∧ G l = some (.lst (natV L)) ∧ Fil n far m i L ∧ Same H G)
      ⟨_, _, _, rfl, upd_same, fil0, s2⟩ (fun i σ G _ p => by obtain ⟨_, _, _, _, _, _, sm⟩ := p; exact ((sm).seq hA)) (fun i x σ G G' hi p y => ?_) (fun σ G p => ?_)⟩
    · obtain ⟨y4, y5, L, rfl, eL, hF, sm⟩ := p
      obtain ⟨t, u, v, rfl, nt, rfl, eu, ev⟩ := y
      cases eu
      obtain ⟨_, rfl⟩ := rowV_get ev
      have st : Same G (upd G t (.tup [.int (i : Nat), .int (m i : Nat)])) := same_new nt
      have hi2 : i < n := by rw [rowV_len] at hi; exact hi
      have h0 : 0 < n := by omega
      have ep := psN_cast h0 far i
      have ev2 := psN_cast h0 far (m i)
      refine ⟨t, _, rfl, SqT.of upd_same, rfl, _, _, rfl, _, _, rfl, rfl, ?_⟩
      refine ⟨_, rfl, _, rfl, _, _, rfl, rfl, _, rfl, _, _, rfl, rfl, (by omega), _, rfl, _, rfl, _, rfl, _, _, rfl, rfl, _, rfl, _, _, rfl, rfl, (by omega), ?_⟩
      dsimp only
      rw [← ep, ← ev2]
      refine ⟨l, _, _, psN n far i, rfl, rfl, st _ _ eL, ixN_nat (by rw [natV_len, hF.1]; exact psN_lt h0 _ _), ?_⟩
      rw [natV_set]
      exact ⟨_, _, _, rfl, upd_same, hF.step hi2, same_grow nlH (sm.trans st)⟩
    · obtain ⟨y4, y5, L, rfl, eL, hF, sm⟩ := p
      rw [rowV_len] at hF
      refine ⟨_, rfl, l, _, rfl, .inl ⟨SqL.of eL, fun t nt => ?_⟩⟩
      exact q t _ (sm.trans (same_new nt)) (sm.free nt) (by rw [upd_same, hF.done])
end
end K34

set_option Elab.async false
set_option linter.all false
set_option maxRecDepth 100000
set_option maxHeartbeats 4000000
namespace K34
open PySem PySem.Spec PyProof.Rows L2 Hs Hm
section
variable {P : Program} {w : World} {K : PySem.W.Frag} {mg : Str → Option Value} {base : Heap} {f : Addr} {fd : FuncData}
def spMoved (K : PySem.W.Frag) : Sp := fun vs H Q _ => ∃ (a : Addr) (n : Nat) (m : Nat → Nat) (far : Int), vs = [.ref a, .int far] ∧ SqT K H a (rowV n m) ∧ n ≤ 24 ∧ ∀ p G, Same H G → H p = none → G p = some (.tup (rowV n (mvN n far m))) → Q (.ref p) G
abbrev nMoved : List Str := ["_law_hall", "_law_far", "_law_size", "_law_found", "_law_k"]
theorem scMoved : FnScope nMoved ["_law_hall", "_law_far"] (defScope sMoved) := ⟨rfl, rfl, rfl, by decide +kernel, rfl, by decide +kernel, by decide +kernel⟩
theorem ok_moved {k : Nat} (F : Fun K "_law_moved" "_law_moved" sMoved f fd) (B : B0 mg) : FnOk P w K mg base CX0 (k + 1) f fd ["_law_hall", "_law_far"] (spMoved K) := by
  refine F.ok scMoved (fun vs H Q E h => ?_) (fun cdv A outer s H vs Q E hr h => ?_)
  · obtain ⟨a, n, m, far, rfl, _⟩ := h; rfl
  obtain ⟨a, n, m, far, rfl, hA, hn, q⟩ := h
  refine ⟨_, (pss_cons (ps_set (i := 2) scMoved.nd rfl (.inl rfl) (pe_callB call_len_seq (by rfl) B.len PySem.boot_len (pa_cons (pv 0) pa_nil)))
    (pss_cons (ps_set (i := 3) scMoved.nd rfl (.inl rfl) (pe_op op_rep (pe_lst (pa_cons pe_int pa_nil)) (pv 2)))
    (pss_cons (ps_for PassesOwn.never rfl (pi_range1 (by rfl) B.range (pa_cons (pv 2) pa_nil)) (pg_name (i := 4) scMoved.nd rfl (.inl rfl)) (pss_one (ps_asg (pe_op op_mod (pe_op op_add (pe_ix ix_tup (pv 0) (pv 4) (fun _ _ => rfl)) (pv 1)) (pv 2)) (pg_sub (pv 3) (pe_op op_mod (pe_op op_add (pv 4) (pv 1)) (pv 2)) set_list))))
    (pss_one (ps_ret (pe_callTy call_tuple_of (by rfl) B.tuple PyProof.Rows.boot_tuple (pa_cons (pv 3) pa_nil))))))), ?_⟩
  refine ⟨_, rfl, a, _, rfl, .inr hA, ?_⟩
  rw [rowV_len]
  refine ⟨(by show 1 ≤ sizeLine; decide), fun l0 n0 => ⟨_, rfl, l0, _, _, rfl, rfl, upd_same, by omega, by omega, ?_, fun l nl => ?_⟩⟩
  · rw [sizeLine_eq]; show 1 * ((n : Int)).toNat ≤ _; omega
  have en : ((n : Int)).toNat = n := by omega
  rw [en, rep_zero]
  have s1 : Same H (upd H l0 (.lst [.int 0])) := same_new n0
  have s2 := s1.trans (same_new (o := .lst (natV (List.replicate n 0))) nl)
  have nlH : H l = none := s1.free nl
  refine ⟨_, rfl, n, rfl, by omega, by omega, for_it (walk_range0 (n := n)) (fun i σ G => ∃ (y4 : Option V) (L : List Nat), σ = [some (.ref a), some (.int far), some (.int (n : Nat)), some (.ref l), y4] ∧ G l = some (.lst (natV L)) ∧ Fil n far m i L ∧ Same H G)
    ⟨_, _, rfl, upd_same, fil0, s2⟩ (fun _ _ _ _ _ => trivial) (fun i x σ G G' hi p y => ?_) (fun σ G p => ?_)⟩
  · obtain ⟨y4, L, rfl, eL, hF, sm⟩ := p
    obtain ⟨rfl, rfl⟩ := y
    have h0 : 0 < n := by omega
    have ep := psN_cast h0 far i
    have ev2 := psN_cast h0 far (m i)
    refine ⟨_, rfl, _, rfl, a, _, _, _, rfl, rfl, same_tup sm hA, row_atN hi, _, rfl, _, _, rfl, rfl, _, rfl, _, _, rfl, rfl, (by omega), _, rfl, _, rfl, _, rfl, _, _, rfl, rfl, _, rfl, _, _, rfl, rfl, (by omega), ?_⟩
    dsimp only
    rw [← ep, ← ev2]
    refine ⟨l, _, _, psN n far i, rfl, rfl, eL, ixN_nat (by rw [natV_len, hF.1]; exact psN_lt h0 _ _), ?_⟩
    rw [natV_set]
    exact ⟨_, _, rfl, upd_same, hF.step hi, same_grow nlH sm⟩
  · obtain ⟨y4, L, rfl, eL, hF, sm⟩ := p
    refine ⟨_, rfl, l, _, rfl, .inl ⟨SqL.of eL, fun t nt => ?_⟩⟩
    exact q t _ (sm.trans (same_new nt)) (sm.free nt) (by rw [upd_same, hF.done])
def alN (n : Nat) (m : Nat → Nat) (i : Nat) : List Nat := ((List.range i).map (· + 1)).filter fun t => decide (Al n m (t : Nat))
def perN (n : Nat) (m : Nat → Nat) : Nat := (alN n m n).headD 1
theorem per_ok {n : Nat} {m : Nat → Nat} (hm : ∀ k, k < n → m k < n) : Per n m (perN n m) := by
  by_cases h0 : n = 0
  · subst h0
    exact ⟨Nat.le_refl 1, fun i h => absurd h (Nat.not_lt_zero _), fun t h1 h2 => absurd (show t < 1 from h2) (by omega)⟩
  unfold perN alN
  rw [List.headD_eq_head?_getD, List.head?_filter]
  cases e : ((List.range n).map (· + 1)).find? (fun t => decide (Al n m (t : Nat))) with
  | none =>
    have := List.find?_eq_none.mp e n (List.mem_map.mpr ⟨n - 1, List.mem_range.mpr (by omega), by omega⟩)
    exact absurd (decide_eq_true (al_size hm)) this
  | some h =>
    obtain ⟨h1, as, bs, e2, h3⟩ := List.find?_eq_some_iff_append.mp e
    have hp : ((List.range n).map (· + 1)).Pairwise (· < ·) := by
      rw [List.pairwise_map]
      exact List.pairwise_lt_range.imp (by omega)
    obtain ⟨j, hj, rfl⟩ := List.mem_map.mp (List.mem_of_find?_eq_some e)
    have jn := List.mem_range.mp hj
    refine ⟨by show 1 ≤ j + 1; omega, of_decide_eq_true h1, fun t t1 t2 => ?_⟩
    have t2 : t < j + 1 := t2
    have mt : t ∈ (List.range n).map (· + 1) := List.mem_map.mpr ⟨t - 1, List.mem_range.mpr (by omega), by omega⟩
    rw [e2] at mt hp
    rcases List.mem_append.mp mt with z | z
    · have := h3 t z
      simpa using this
    · have := (List.pairwise_append.mp hp).2.1
      rw [List.pairwise_cons] at this
      rcases List.mem_cons.mp z with z | z
      · omega
      · have := this.1 t z; omega
theorem shaped_rowT (n : Nat) (m : Nat → Nat) : SeqAt.shaped (.tuple (rowD n m)) = true := shaped_rowD n m
theorem eqvAll_row {m m' : Nat → Nat} : ∀ l : List Nat, PyData.eqvAll (l.map fun i => .int (m i : Nat)) (l.map fun i => .int (m' i : Nat)) = decide (∀ i ∈ l, m i = m' i)
  | [] => by simp [PyData.eqvAll]
  | x :: l => by
    show (((m x : Nat) : Int) == ((m' x : Nat) : Int) && PyData.eqvAll _ _) = _
    rw [eqvAll_row l]
    by_cases e : m x = m' x
    · rw [e]; simp [e]
    · have : ¬ ((m x : Nat) : Int) = ((m' x : Nat) : Int) := by omega
      simp [e, this]
theorem eqv_rows (n : Nat) (m m' : Nat → Nat) : PyData.eqv (.tuple (rowD n m)) (.tuple (rowD n m')) = decide (∀ i, i < n → m i = m' i) := by
  show PyData.eqvAll (rowD n m) (rowD n m') = _
  unfold rowD
  rw [eqvAll_row]
  exact decide_eq_decide.mpr ⟨fun h i hi => h i (List.mem_range.mpr hi), fun h i hi => h i (List.mem_range.mp hi)⟩
theorem eqv_al (n : Nat) (m : Nat → Nat) (t : Int) : PyData.eqv (.tuple (rowD n (mvN n t m))) (.tuple (rowD n m)) = decide (Al n m t) := by
  rw [eqv_rows]; rfl
def spPer (K : PySem.W.Frag) : Sp := fun vs H Q _ => ∃ (a : Addr) (n : Nat) (m : Nat → Nat), vs = [.ref a] ∧ SqA K H a (rowV n m) ∧ n ≤ 24 ∧ (∀ k, k < n → m k < n) ∧ ∀ G, Same H G → Q (.int (perN n m : Nat)) G
def muP (c : Nat) (σ : L2.St) : Nat := match σ[1]? with | some (some (V.int i)) => c - i.toNat | _ => 0
abbrev nPer : List Str := ["arrangement", "seats"]
theorem scPer : FnScope nPer ["arrangement"] (defScope sPeriod) := ⟨rfl, rfl, rfl, by decide +kernel, rfl, by decide +kernel, by decide +kernel⟩
theorem ok_per {k : Nat} (F : Fun K "period" "period" sPeriod f fd) (B : B0 mg) {fTu : Addr} {dTu : FuncData} (Tu : Fx P w K mg base k "turned" ["arrangement", "seats"] (spTurned K) fTu dTu) : FnOk P w K mg base CX0 (k + 1) f fd ["arrangement"] (spPer K) := by
  refine F.ok scPer (fun vs H Q E h => ?_) (fun cdv A outer s H vs Q E hr h => ?_)
  · obtain ⟨a, n, m, rfl, _⟩ := h; rfl
  obtain ⟨a, n, m, rfl, hA, hn, hm, q⟩ := h
  have hp := per_ok hm
  refine ⟨_, (pss_cons (ps_set (i := 1) scPer.nd rfl (.inl rfl) pe_int)
    (pss_cons (ps_while PassesOwn.never (pt_cmpR (op_neD hr.units) (pe_call Tu.ok hr (by rfl) Tu.m Tu.k Tu.b .nil pass0 (pa_cons (pv 0) (pa_cons (pv 1) pa_nil))) (pe_callTy call_tuple_of (by rfl) B.tuple PyProof.Rows.boot_tuple (pa_cons (pv 0) pa_nil)) (nomark _)) (pss_one (ps_aug (i := 1) scPer.nd rfl (.inl rfl) pe_int ip_add)))
    (pss_one (ps_ret (pv 1))))), ?_⟩
  refine while_by (fun σ W => ∃ c : Nat, σ = [some (.ref a), some (.int (c : Nat))] ∧ 1 ≤ c ∧ c ≤ perN n m ∧ Same H W) (fun σ _ => muP (perN n m) σ) ⟨1, rfl, Nat.le_refl _, hp.pos, Same.refl _⟩ (fun σ W p => ?_) (fun σ W Q Q' hq x => ?_)
  · obtain ⟨c0, rfl, c1, c2, sm⟩ := p
    refine ⟨_, rfl, _, rfl, a, n, m, (c0 : Nat), rfl, same_sqA sm hA, hn, fun p G s1 np ep => ?_⟩
    have hAG := same_sqA (sm.trans s1) hA
    have dT : Dp K G (.ref p) (.tuple (rowD n (mvN n (c0 : Nat) m))) := dp_rowD (SqT.of ep)
    rcases hAG with hAG | hAG
    · refine ⟨_, rfl, a, _, rfl, .inr ⟨hAG, ?_⟩⟩
      refine ⟨_, _, dT, dp_rowD hAG, shaped_rowT _ _, shaped_rowT _ _, _, rfl, ?_⟩
      rw [eqv_al]
      by_cases c : Al n m (c0 : Nat)
      · rw [decide_eq_true c]
        have e : c0 = perN n m := by
          rcases Nat.lt_or_ge c0 (perN n m) with z | z
          · exact absurd c (hp.least c0 c1 z)
          · omega
        rw [e]
        exact iteF ⟨_, rfl, q _ (sm.trans s1)⟩
      · rw [decide_eq_false c]
        have lt : c0 < perN n m := by
          rcases Nat.lt_or_ge c0 (perN n m) with z | z
          · exact z
          · exact absurd (show Al n m (c0 : Nat) by rw [show c0 = perN n m by omega]; exact hp.al) c
        refine iteT ⟨_, rfl, _, _, rfl, rfl, ?_⟩
        exact ⟨⟨c0 + 1, rfl, by omega, by omega, sm.trans s1⟩, by show perN n m - ((c0 : Int) + 1).toNat < perN n m - ((c0 : Int)).toNat; omega⟩
    · refine ⟨_, rfl, a, _, rfl, .inl ⟨hAG, fun u nu => ?_⟩⟩
      have su := same_new (o := .tup (rowV n m)) nu
      refine ⟨_, _, same_dp su dT, dp_rowD (SqT.of upd_same), shaped_rowT _ _, shaped_rowT _ _, _, rfl, ?_⟩
      rw [eqv_al]
      by_cases c : Al n m (c0 : Nat)
      · rw [decide_eq_true c]
        have e : c0 = perN n m := by
          rcases Nat.lt_or_ge c0 (perN n m) with z | z
          · exact absurd c (hp.least c0 c1 z)
          · omega
        rw [e]
        exact iteF ⟨_, rfl, q _ ((sm.trans s1).trans su)⟩
      · rw [decide_eq_false c]
        have lt : c0 < perN n m := by
          rcases Nat.lt_or_ge c0 (perN n m) with z | z
          · exact z
          · exact absurd (show Al n m (c0 : Nat) by rw [show c0 = perN n m by omega]; exact hp.al) c
        refine iteT ⟨_, rfl, _, _, rfl, rfl, ?_⟩
        exact ⟨⟨c0 + 1, rfl, by omega, by omega, (sm.trans s1).trans su⟩, by show perN n m - ((c0 : Int) + 1).toNat < perN n m - ((c0 : Int)).toNat; omega⟩
  · obtain ⟨v, e, u, e', a', n', m', far', e1, h1, h2, q3⟩ := x
    refine ⟨v, e, u, e', a', n', m', far', e1, h1, h2, fun p G s1 np ep => ?_⟩
    obtain ⟨v2, e2, p2, ys2, e3, hd⟩ := q3 p G s1 np ep
    refine ⟨v2, e2, p2, ys2, e3, ?_⟩
    rcases hd with ⟨hs, k⟩ | ⟨hs, k⟩
    · refine .inl ⟨hs, fun l nl => ?_⟩
      obtain ⟨d1, d2, x1, x2, x3, x4, b, eb, z⟩ := k l nl
      exact ⟨d1, d2, x1, x2, x3, x4, b, eb, hq _ _ z⟩
    · obtain ⟨d1, d2, x1, x2, x3, x4, b, eb, z⟩ := k
      exact .inr ⟨hs, d1, d2, x1, x2, x3, x4, b, eb, hq _ _ z⟩
end
end K34

set_option Elab.async false
set_option linter.all false
set_option maxRecDepth 100000
set_option maxHeartbeats 4000000
namespace K34
open PySem PySem.Spec PyProof.Rows L2 Hs Hm
section
variable {P : Program} {w : World} {K : PySem.W.Frag} {mg : Str → Option Value} {base : Heap} {f : Addr} {fd : FuncData}
def mL (l : List Nat) : Nat → Nat := fun i => l.getD i 0
def alL (n : Nat) (far : Nat) : List (List Nat) := (evN n).filter fun l => (n == 0) || decide (Al n (mL l) (far : Nat))
def fewOk (q : Nat) : Bool := (List.range (max 1 (2 * q))).all fun far => amN (2 * q) (far : Nat) == (alL (2 * q) far).length && amN (2 * q) (-(far : Nat)) == (alL (2 * q) far).length
def evLt (q : Nat) : Bool := (evN (2 * q)).all fun l => l.all fun x => decide (x < 2 * q)
theorem few_check : (List.range 6).all (fun q => fewOk q && evLt q) = true := by decide +kernel
theorem few_ok {q far : Nat} (h : q ≤ 5) (hf : far < max 1 (2 * q)) : amN (2 * q) (far : Nat) = (alL (2 * q) far).length ∧ amN (2 * q) (-(far : Nat)) = (alL (2 * q) far).length := by
  have := List.all_eq_true.mp few_check q (List.mem_range.mpr (by omega))
  rw [Bool.and_eq_true] at this
  have := List.all_eq_true.mp this.1 far (List.mem_range.mpr hf)
  rw [Bool.and_eq_true] at this
  exact ⟨by simpa using this.1, by simpa using this.2⟩
theorem ev_lt {q : Nat} (h : q ≤ 5) {l : List Nat} (hl : l ∈ evN (2 * q)) : ∀ x ∈ l, x < 2 * q := by
  have := List.all_eq_true.mp few_check q (List.mem_range.mpr (by omega))
  rw [Bool.and_eq_true] at this
  have := List.all_eq_true.mp this.2 l hl
  intro x hx
  exact of_decide_eq_true (List.all_eq_true.mp this x hx)
theorem ev_len {q : Nat} (h : q ≤ 5) {l : List Nat} (hl : l ∈ evN (2 * q)) : l.length = 2 * q := by
  by_cases c : q = 0
  · subst c
    have : l = [] := by simpa [ev_zero] using hl
    rw [this]; rfl
  · exact ((ev_ok (by omega) h).2.1 l hl).1
theorem ev_many {q : Nat} (h : q ≤ 5) : 0 < (evN (2 * q)).length ∧ (evN (2 * q)).length < 64 := by
  by_cases c : q = 0
  · subst c; decide
  · obtain ⟨_, _, _, h1, h2⟩ := ev_ok (q := q) (by omega) h
    exact ⟨h2, h1⟩
theorem am_per (n : Nat) (s z : Int) : amN n (s + (if (n : Int) > 1 then (n : Int) else 1) * z) = amN n s := by
  by_cases c : n = 0
  · subst c; rfl
  · have e : (if (n : Int) > 1 then (n : Int) else 1) = (n : Int) := by split <;> omega
    rw [e]
    unfold amN
    rw [Int.add_mul_emod_self_left]
theorem eqvAll_nats : ∀ a b : List Nat, PyData.eqvAll (a.map fun t => PyData.int (t : Nat)) (b.map fun t => PyData.int (t : Nat)) = decide (a = b)
  | [], [] => rfl
  | [], _ :: _ => rfl
  | _ :: _, [] => rfl
  | x :: a, y :: b => by
    show (((x : Nat) : Int) == ((y : Nat) : Int) && PyData.eqvAll _ _) = _
    rw [eqvAll_nats a b]
    by_cases e : x = y
    · rw [e]; simp
    · have : ¬ ((x : Nat) : Int) = ((y : Nat) : Int) := by omega
      simp [e, this]
theorem any_tup (L : List (List Nat)) (l : List Nat) : ((L.map tupN).any fun z => PyData.eqv z (tupN l)) = decide (l ∈ L) := by
  by_cases c : l ∈ L
  · rw [decide_eq_true c, List.any_eq_true]
    refine ⟨tupN l, List.mem_map.mpr ⟨l, c, rfl⟩, ?_⟩
    show PyData.eqvAll _ _ = true
    rw [eqvAll_nats]; exact decide_eq_true rfl
  · rw [decide_eq_false c, List.any_eq_false]
    intro z hz
    obtain ⟨a, ha, rfl⟩ := List.mem_map.mp hz
    show ¬ PyData.eqvAll _ _ = true
    rw [eqvAll_nats]
    intro e
    have e : a = l := of_decide_eq_true e
    rw [e] at ha
    exact c ha
theorem al_per {q far : Nat} (h : q ≤ 5) (hf : far < 2 * q) {l : List Nat} (hl : l ∈ evN (2 * q)) : decide (l ∈ alL (2 * q) far) = decide (far % perN (2 * q) (mL l) = 0) := by
  have hm : ∀ k, k < 2 * q → mL l k < 2 * q := fun k hk => by
    have := ev_lt h hl (l[k]'(by rw [ev_len h hl]; exact hk)) (List.getElem_mem _)
    unfold mL
    rw [List.getD_eq_getElem?_getD, List.getElem?_eq_getElem (by rw [ev_len h hl]; exact hk)]
    exact this
  have p := per_ok hm
  refine decide_eq_decide.mpr ⟨fun z => ?_, fun z => ?_⟩
  · have := (List.mem_filter.mp z).2
    rw [Bool.or_eq_true] at this
    rcases this with y | y
    · have : 2 * q = 0 := by simpa using y
      omega
    · exact p.dvd hm (of_decide_eq_true y)
  · refine List.mem_filter.mpr ⟨hl, ?_⟩
    rw [Bool.or_eq_true]
    refine .inr (decide_eq_true ?_)
    have := p.al.mul hm (far / perN (2 * q) (mL l))
    have e : (far : Nat) = perN (2 * q) (mL l) * (far / perN (2 * q) (mL l)) := by
      have := Nat.div_add_mod far (perN (2 * q) (mL l)); omega
    rw [← Int.natCast_mul, ← e] at this
    exact this
theorem nat_mL {q : Nat} {l : List Nat} (h : l.length = 2 * q) : natV l = rowV (2 * q) (mL l) := by rw [natV_row, h]; rfl
theorem tup_row {q : Nat} {l : List Nat} (h : l.length = 2 * q) : tupN l = .tuple (rowD (2 * q) (mL l)) := by
  unfold tupN rowD
  congr 1
  apply List.ext_getElem?
  intro i
  rw [List.getElem?_map, List.getElem?_map]
  by_cases hi : i < 2 * q
  · rw [List.getElem?_range hi, List.getElem?_eq_getElem (by omega)]
    unfold mL
    rw [Option.map_some, Option.map_some, List.getD_eq_getElem?_getD, List.getElem?_eq_getElem (by omega)]; rfl
  · rw [List.getElem?_eq_none (by omega), List.getElem?_eq_none (by rw [List.length_range]; omega)]; rfl
theorem shaped_tups (L : List (List Nat)) : SeqAt.shaped (.list (L.map tupN)) = true := by
  have one : ∀ l : List Nat, PyData.canLayAll0 (l.map fun t => PyData.int (t : Nat)) = true ∧ PyData.depthAll (l.map fun t => PyData.int (t : Nat)) = 0 := by
    intro l
    induction l with
    | nil => exact ⟨rfl, rfl⟩
    | cons x l ih =>
      refine ⟨?_, ?_⟩
      · show (true && PyData.canLayAll0 _) = true; rw [ih.1]; rfl
      · show max 0 (PyData.depthAll _) = 0; rw [ih.2]; rfl
  have all : PyData.canLayAll0 (L.map tupN) = true ∧ PyData.depthAll (L.map tupN) ≤ 1 := by
    induction L with
    | nil => exact ⟨rfl, Nat.zero_le _⟩
    | cons x L ih =>
      refine ⟨?_, ?_⟩
      · show (PyData.canLayAll0 (x.map fun t => PyData.int (t : Nat)) && PyData.canLayAll0 (L.map tupN)) = true
        rw [(one x).1, ih.1]; rfl
      · show max (PyData.depthAll (x.map fun t => PyData.int (t : Nat)) + 1) (PyData.depthAll (L.map tupN)) ≤ 1
        rw [(one x).2]; omega
  show (PyData.canLayAll0 (L.map tupN) && decide (PyData.depthAll (L.map tupN) + 1 ≤ 64)) = true
  rw [all.1, Bool.true_and]
  exact decide_eq_true (by omega)
def spFew (K : PySem.W.Frag) : Sp := fun vs H Q _ => ∃ (b : Addr) (q N : Nat), vs = [.ref b, .int ((2 * q : Nat) : Int)] ∧ q ≤ 5 ∧ BoxAt H b (N + 40) ∧ ∀ G, Ap b H G → BoxAt G b N → Q (.bl true) G
abbrev nFew : List Str := ["_law_box_here", "_law_size", "_law_every_here", "_law_far", "_law_alike", "_law_more", "_law_told", "_law_hall"]
theorem scFew : FnScope nFew ["_law_box_here", "_law_size"] (defScope sFewRight) := ⟨rfl, rfl, rfl, by decide +kernel, rfl, by decide +kernel, by decide +kernel⟩
theorem ok_few {k : Nat} (F : Fun K "_law_few_right" "_law_few_right" sFewRight f fd) (B : B0 mg) (mmax : mg "max" = none) {fEv : Addr} {dEv : FuncData} (Ev : Fx P w K mg base k "_law_every" ["_law_size"] (spEv K 6) fEv dEv) {fMo : Addr} {dMo : FuncData} (Mo : Fx P w K mg base k "_law_moved" ["_law_hall", "_law_far"] (spMoved K) fMo dMo) {fTa : Addr} {dTa : FuncData} (Ta : Fx P w K mg base k "_law_take" ["_law_box_here", "_law_below"] (spTake K) fTa dTa) {fOf : Addr} {dOf : FuncData} (Of : Fx P w K mg base k "_law_of" ["_law_box_here", "_law_pool"] (spOf K) fOf dOf) {fSa : Addr} {dSa : FuncData} (Sa : Fx P w K mg base k "_law_same" ["_law_found", "_law_due"] (spSame K 8) fSa dSa) {fPe : Addr} {dPe : FuncData} (Pe : Fx P w K mg base k "period" ["arrangement"] (spPer K) fPe dPe) {fAm : Addr} {dAm : FuncData} (Am : Fx P w K mg base k "alike_many" ["people", "seats"] (spAm K) fAm dAm) {fAmK : Addr} {dAmK : FuncData} (AmK : Fk P w K mg base k "alike_many" ["people", "seats"] ["seats", "people"] swap2 (spAm K) fAmK dAmK) : FnOk P w K mg base CX0 (k + 1) f fd ["_law_box_here", "_law_size"] (spFew K) := by
  refine F.ok scFew (fun vs H Q E h => ?_) (fun cdv A outer s H vs Q E hr h => ?_)
  · obtain ⟨b, q, N, rfl, _⟩ := h; rfl
  obtain ⟨b, q, N, rfl, q5, hB, qq⟩ := h
  have hu65 : (A.deeper (envOfC "_law_few_right" (defScope sFewRight) s.heap.objs.size f cdv)).units + 65 < cLine := by have := hr.un; omega
  refine ⟨_, (pss_cons (ps_set (i := 2) scFew.nd rfl (.inl rfl) (pe_call Ev.ok hr (by rfl) Ev.m Ev.k Ev.b .nil pass0 (pa_cons (pv 1) pa_nil)))
    (pss_cons (ps_for PassesOwn.never rfl (pi_range1 (by rfl) B.range (pa_cons (pe_callB (call_max2 rfl) (by rfl) mmax PyProof.Rows.boot_max (pa_cons pe_int (pa_cons (pv 1) pa_nil))) pa_nil)) (pg_name (i := 3) scFew.nd rfl (.inr rfl)) (pss_cons (ps_setLc (i := 4) (own := [("_law_hall", 7)]) (g := (gName 7)) (tt := tOr (tTest (tOp rEq (tVar 1) (tC (.int 0)))) (tTest (tOp (rEqD K) (tCall (spMoved K) [] E0 (tCons (tVar 7) (tCons (tVar 3) tNil))) (tVar 7))))  (by rfl) scFew.nd  rfl rfl (sw_true rfl rfl rfl (by decide +kernel)) (pi_list (pv 2)) (blkOk_by (own := [("_law_hall", 7)]) (N := nFew) (sc := defScope sFewRight) (by decide +kernel)) (fun _ _ _ _ _ => (pg_name (i := 7) scFew.nd rfl (.inl rfl))) (fun _ _ _ _ _ => (pts_one (PW.pt (pw_or (pt_cmpR op_eq (pv 1) pe_int (nomark _)) (pw_or1 (pt_cmpR (op_eqD hr.units) (pe_call Mo.ok hr (by rfl) Mo.m Mo.k Mo.b .nil pass0 (pa_cons (pv 7) (pa_cons (pv 3) pa_nil))) (pv 7) (nomark _))))))) (fun _ _ _ _ _ => (pv 7)))
    (pss_cons (ps_set (i := 5) scFew.nd rfl (.inl rfl) (pe_op op_add (pv 3) (pe_op op_mul (pe_callB (call_max2 rfl) (by rfl) mmax PyProof.Rows.boot_max (pa_cons pe_int (pa_cons (pv 1) pa_nil))) (pe_op op_sub (pe_call Ta.ok hr (by rfl) Ta.m Ta.k Ta.b .nil pass0 (pa_cons (pv 0) (pa_cons (pe_op op_pow pe_int pe_int) pa_nil))) (pe_op op_mul pe_int (pe_op op_pow pe_int pe_int))))))
    (pss_cons (ps_set (i := 6) scFew.nd rfl (.inl rfl) (pe_lst (pa_cons (pe_call Am.ok hr (by rfl) Am.m Am.k Am.b .nil pass0 (pa_cons (pv 1) (pa_cons (pv 3) pa_nil))) (pa_cons (pe_kw0 AmK.ok hr (by rfl) AmK.m AmK.k AmK.kw pass0 (pk_cons (pv 5) (pk_cons (pv 1) pk_nil))) (pa_cons (pe_call Am.ok hr (by rfl) Am.m Am.k Am.b .nil pass0 (pa_cons (pv 1) (pa_cons (pe_un un_neg (pv 3)) pa_nil))) pa_nil)))))
    (pss_cons (ps_if (pt_not (pt_val (pe_call Sa.ok hr (by rfl) Sa.m Sa.k Sa.b .nil pass0 (pa_cons (pv 6) (pa_cons (pe_op op_rep (pe_lst (pa_cons (pe_callB call_len_seq (by rfl) B.len PySem.boot_len (pa_cons (pv 4) pa_nil)) pa_nil)) pe_int) pa_nil))))) (pss_one (ps_ret pe_bl)) pss_nil)
    (pss_cons (ps_set (i := 7) scFew.nd rfl (.inl rfl) (pe_call Of.ok hr (by rfl) Of.m Of.k Of.b .nil pass0 (pa_cons (pv 0) (pa_cons (pv 2) pa_nil))))
    (pss_one (ps_if (PW.pt (pw_and (pt_cmpR op_gt (pv 3) pe_int (nomark _)) (pw_and1 (pt_cmpR op_ne (pe_cmpR (op_inD hu65) (pv 7) (pv 4) (by rfl)) (pe_cmpR op_eq (pe_op op_mod (pv 3) (pe_call Pe.ok hr (by rfl) Pe.m Pe.k Pe.b .nil pass0 (pa_cons (pv 7) pa_nil))) pe_int (nomark _)) (nomark _))))) (pss_one (ps_ret pe_bl)) pss_nil))))))))
    (pss_one (ps_ret pe_bl)))), ?_⟩
  refine ⟨_, rfl, q, rfl, q5, by omega, fun p ys G sG np ep dp => ?_⟩
  have npb : p ≠ b := box_ne hB np
  have hBG := hB.same sG
  obtain ⟨em1, em2⟩ := ev_many q5
  have ly : ys.length = (evN (2 * q)).length := by rw [dpAll_len dp, List.length_map]
  have dpb : DpAll K (hid G b) ys ((evN (2 * q)).map tupN) := by
    obtain ⟨x, y, z, eb, _⟩ := id hBG
    exact st_dps (st_hidL eb) (lf_tups _) (same_dps (hid_same G p) dp)
  have emx : (if ((2 * q : Nat) : Int) > 1 then ((2 * q : Nat) : Int) else 1) = ((max 1 (2 * q) : Nat) : Int) := by split <;> omega
  refine ⟨_, rfl, _, _, rfl, ?_⟩
  rw [emx]
  refine ⟨((max 1 (2 * q) : Nat) : Int), rfl, by omega, by omega, for_it (walk_range0 (n := max 1 (2 * q))) (fun i σ W => (∃ y3 y4 y5 y6 y7, σ = [some (.ref b), some (.int ((2 * q : Nat) : Int)), some (.ref p), y3, y4, y5, y6, y7]) ∧ Ap b G W ∧ BoxAt W b (N + 2 * (12 - i)))
    ⟨⟨_, _, _, _, _, rfl⟩, Ap.refl _ _, hBG.mono (by omega)⟩ (fun _ _ _ _ _ => trivial) (fun i x σ W W' hi z y => ?_) (fun σ W z => ?_)⟩
  · obtain ⟨⟨y3, y4, y5, y6, y7, rfl⟩, ap, hBW⟩ := z
    obtain ⟨rfl, rfl⟩ := y
    have epW := ap_get ap ep npb
    have dpW : DpAll K (hid W' b) ys ((evN (2 * q)).map tupN) := same_dps ap dpb
    refine ⟨_, rfl, p, rfl, ⟨_, SqL.of epW⟩, fun D nD => ?_⟩
    refine lc_it (walk_list (K := K) (a := p) (xs := ys)) (fun j J => LcI K W' D ((((evN (2 * q)).take j).filter fun l => (2 * q == 0) || decide (Al (2 * q) (mL l) (i : Nat))).map tupN) J) (lcI_0 nD) (fun j J _ z => SqL.of (z.same _ _ epW)) (fun j x J Ja hj z y => ?_) (fun J z => ?_)
    · obtain ⟨rfl, ex⟩ := y
      obtain ⟨ta, a, ea, rfl, hTa⟩ := tups_get (same_dps (hid_same W' b) dpW) ex
      have ma : a ∈ evN (2 * q) := List.mem_of_getElem? ea
      have la := ev_len q5 ma
      have hTJ := same_tup z.same hTa
      obtain ⟨_, acc0, eD0, _⟩ := id z
      have hTD : Dp K (hid Ja D) (.ref ta) (tupN a) := st_dp (st_hidL eD0) (by have := lf_tups [a]; simpa only [List.map_cons, List.map_nil, lfL, Bool.and_true] using this) (dp_tupN hTJ)
      have tk : ((evN (2 * q)).take (j + 1)).filter (fun l => (2 * q == 0) || decide (Al (2 * q) (mL l) (i : Nat))) = ((evN (2 * q)).take j).filter (fun l => (2 * q == 0) || decide (Al (2 * q) (mL l) (i : Nat))) ++ [a].filter (fun l => (2 * q == 0) || decide (Al (2 * q) (mL l) (i : Nat))) := by rw [take_snoc ea, List.filter_append]
      have ld : ((((evN (2 * q)).take j).filter fun l => (2 * q == 0) || decide (Al (2 * q) (mL l) (i : Nat))).map tupN).length < 100000 := by
        rw [List.length_map]
        have := List.length_filter_le (fun l => (2 * q == 0) || decide (Al (2 * q) (mL l) (i : Nat))) ((evN (2 * q)).take j)
        have := List.length_take_le j (evN (2 * q))
        omega
      have yes : ∀ Jx, Same Ja Jx → ((2 * q == 0) || decide (Al (2 * q) (mL a) (i : Nat))) = true → ∃ acc, Jx D = some (.lst acc) ∧ acc.length < sizeLine ∧ LcI K W' D ((((evN (2 * q)).take (j + 1)).filter fun l => (2 * q == 0) || decide (Al (2 * q) (mL l) (i : Nat))).map tupN) (upd Jx D (.lst (acc ++ [.ref ta]))) := fun Jx sx c => by
        rw [tk, List.map_append, List.filter_cons_of_pos (by exact c), List.filter_nil]
        exact (z.mono sx).put nD ld (same_dp (hid_mono sx) hTD)
      have no : ∀ Jx, Same Ja Jx → ((2 * q == 0) || decide (Al (2 * q) (mL a) (i : Nat))) = false → LcI K W' D ((((evN (2 * q)).take (j + 1)).filter fun l => (2 * q == 0) || decide (Al (2 * q) (mL l) (i : Nat))).map tupN) Jx := fun Jx sx c => by
        rw [tk, List.filter_cons_of_neg (by rw [c]; exact Bool.false_ne_true), List.filter_nil, List.append_nil]
        exact z.mono sx
      by_cases c0 : q = 0
      · subst c0
        exact ⟨rfl, _, rfl, rfl, _, rfl, iteT ⟨_, rfl, yes _ (Same.refl _) rfl⟩⟩
      · refine ⟨rfl, _, rfl, rfl, _, rfl, ?_⟩
        rw [show decide (V.int ((2 * q : Nat) : Int) = V.int 0) = false from decide_eq_false (fun z => by injection z with z; omega)]
        have q0 : (2 * q == 0) = false := beq_eq_false_iff_ne.mpr (by omega)
        refine iteF ⟨_, rfl, _, rfl, ta, 2 * q, mL a, (i : Nat), rfl, by rw [← nat_mL la]; exact hTJ, by omega, fun p2 G2 s2 np2 ep2 => ?_⟩
        refine ⟨_, rfl, _, _, dp_rowD (SqT.of ep2), same_dp s2 (dp_tupN hTJ), shaped_rowT _ _, by rw [tup_row la]; exact shaped_rowT _ _, _, rfl, ?_⟩
        rw [tup_row la, eqv_al]
        by_cases c : Al (2 * q) (mL a) (i : Nat)
        · rw [decide_eq_true c]
          exact iteT ⟨_, rfl, yes _ s2 (by rw [decide_eq_true c, Bool.or_true])⟩
        · rw [decide_eq_false c]
          exact iteF (no _ s2 (by rw [decide_eq_false c, q0]; rfl))
    rw [ly, List.take_length] at z
    obtain ⟨few1, few2⟩ := few_ok q5 hi
    have lcD : LcI K W' D ((alL (2 * q) i).map tupN) J := z
    have sJ := lcD.same
    have hBJ := hBW.same sJ
    have nDb : D ≠ b := box_ne hBW nD
    obtain ⟨_, acc, eD, dA⟩ := id lcD
    have la : acc.length = (alL (2 * q) i).length := by rw [dpAll_len dA, List.length_map]
    refine ⟨_, rfl, _, rfl, _, _, rfl, _, rfl, 10, 6, rfl, rfl, ⟨by decide, by decide, by decide⟩, ?_⟩
    refine ⟨b, _, N + 2 * (12 - (i + 1)) + 1, rfl, by decide, by decide, hBJ.mono (by omega), fun r W2 r0 r1 ap2 hB2 => ?_⟩
    have cm5 : CMul 5 ((10 : Int) ^ (5 : Int).toNat) := .inl ⟨by decide, by decide⟩
    refine ⟨10, 5, rfl, rfl, ⟨by decide, by decide, by decide⟩, _, _, rfl, rfl, cm5, _, _, rfl, rfl, _, _, rfl, rfl, .inl ⟨?_, ?_⟩, _, _, rfl, rfl, ?_⟩
    · split <;> omega
    · split <;> omega
    have q24 : 2 * q ≤ 1000 := by omega
    refine ⟨_, rfl, _, rfl, 2 * q, (i : Nat), rfl, q24, ?_⟩
    refine ⟨_, rfl, _, rfl, rfl, 2 * q, _, rfl, q24, ?_⟩
    refine ⟨_, rfl, _, rfl, _, rfl, 2 * q, -(i : Nat), rfl, q24, ?_⟩
    rw [am_per, few1, few2]
    refine ⟨by show 3 ≤ sizeLine; decide, fun t nt => ?_⟩
    have st := same_new (o := .lst [.int ((alL (2 * q) i).length : Nat), .int ((alL (2 * q) i).length : Nat), .int ((alL (2 * q) i).length : Nat)]) nt
    have et : (upd W2 t (.lst [.int ((alL (2 * q) i).length : Nat), .int ((alL (2 * q) i).length : Nat), .int ((alL (2 * q) i).length : Nat)])) t = _ := upd_same
    have eD2 := st _ _ (ap_get ap2 eD nDb)
    have hB3 := hB2.same st
    have ap3 : Ap b J _ := ap2.trans (ap_same st)
    generalize upd W2 t (.lst [.int ((alL (2 * q) i).length : Nat), .int ((alL (2 * q) i).length : Nat), .int ((alL (2 * q) i).length : Nat)]) = W3 at et eD2 hB3 ap3 st ⊢
    refine ⟨_, rfl, _, rfl, D, _, rfl, .inl (SqL.of eD2), by show 1 ≤ sizeLine; decide, fun t1 nt1 => ?_⟩
    rw [la]
    have s1 := same_new (o := .lst [.int ((alL (2 * q) i).length : Nat)]) nt1
    refine ⟨t1, 3, _, rfl, rfl, upd_same, by decide, by decide, by show 1 * 3 ≤ sizeLine; decide, fun t2 nt2 => ?_⟩
    have s2 := same_new (o := .lst [.int ((alL (2 * q) i).length : Nat), .int ((alL (2 * q) i).length : Nat), .int ((alL (2 * q) i).length : Nat)]) nt2
    have s3 := s1.trans s2
    refine ⟨_, _, .list [.int ((alL (2 * q) i).length : Nat), .int ((alL (2 * q) i).length : Nat), .int ((alL (2 * q) i).length : Nat)], rfl, .lst (SqL.of (s3 _ _ et)) (.cons (.int _) (.cons (.int _) (.cons (.int _) .nil))), .lst (SqL.of upd_same) (.cons (.int _) (.cons (.int _) (.cons (.int _) .nil))), by show max 0 (max 0 (max 0 0)) + 1 < 8; decide, by show 1 + (1 + (1 + 0)) + 1 ≤ 100000; decide, fun W4 s4 => ⟨_, rfl, iteF ?_⟩⟩
    have s5 := s3.trans s4
    have hB4 := hB3.same s5
    have ap4 : Ap b J W4 := ap3.trans (ap_same s5)
    have apG : Ap b G W4 := (ap.trans (ap_same sJ)).trans ap4
    have ep4 := ap_get apG ep npb
    refine ⟨_, rfl, _, rfl, b, p, ys, N + 2 * (12 - (i + 1)), rfl, SqL.of (by rw [hid_ne npb]; exact ep4), by omega, by omega, hB4, fun u x W5 ex ap5 hB5 => ?_⟩
    have ap6 : Ap b J W5 := ap4.trans ap5
    have apG5 : Ap b G W5 := apG.trans ap5
    obtain ⟨ta, a, ea, rfl, hTa⟩ := tups_get (same_dps (hid_same W5 b) (same_dps apG5 dpb)) ex
    have ma : a ∈ evN (2 * q) := List.mem_of_getElem? ea
    have lna := ev_len q5 ma
    have end5 : ∀ (zz : Option V) G5, Same W5 G5 → (∃ y3 y4 y5 y6 y7, ([some (.ref b), some (.int ((2 * q : Nat) : Int)), some (.ref p), some (.int ((i : Nat) : Int)), some (.ref D), zz, some (.ref t), some (.ref ta)] : L2.St) = [some (.ref b), some (.int ((2 * q : Nat) : Int)), some (.ref p), y3, y4, y5, y6, y7]) ∧ Ap b G G5 ∧ BoxAt G5 b (N + 2 * (12 - (i + 1))) := fun zz G5 s5 => ⟨⟨_, _, _, _, _, rfl⟩, apG5.trans (ap_same s5), hB5.same s5⟩
    refine ⟨_, rfl, _, _, rfl, rfl, _, rfl, ?_⟩
    by_cases c0 : i = 0
    · subst c0
      exact iteF (iteF (end5 _ _ (Same.refl _)))
    rw [show decide ((i : Int) > 0) = true from decide_eq_true (by omega)]
    have iq : i < 2 * q := by omega
    have eD5 := ap_get ap6 eD nDb
    have dD5 : Dp K W5 (.ref D) (.list ((alL (2 * q) i).map tupN)) := by
      obtain ⟨x1, y1, z1, eb, _⟩ := id hBJ
      have dJ : DpAll K (hid J b) acc ((alL (2 * q) i).map tupN) := st_dps (st_hidL eb) (lf_tups _) (same_dps (hid_same J D) dA)
      exact .lst (SqL.of eD5) (same_dps (hid_same W5 b) (same_dps ap6 dJ))
    have hm : ∀ k, k < 2 * q → mL a k < 2 * q := fun k hk => by
      have := ev_lt q5 ma (a[k]'(by rw [lna]; exact hk)) (List.getElem_mem _)
      unfold mL
      rw [List.getD_eq_getElem?_getD, List.getElem?_eq_getElem (by rw [lna]; exact hk)]
      exact this
    have pp := (per_ok hm).pos
    refine iteT ⟨_, rfl, _, rfl, _, _, dp_tupN hTa, dD5, by rw [tup_row lna]; exact shaped_rowT _ _, shaped_tups _, ?_⟩
    rw [any_tup]
    refine ⟨_, rfl, _, rfl, ta, 2 * q, mL a, rfl, .inl (by rw [← nat_mL lna]; exact hTa), by omega, hm, fun W6 s6 => ⟨_, _, rfl, rfl, by omega, rfl, rfl, _, rfl, ?_⟩⟩
    have eb : decide (i % perN (2 * q) (mL a) = 0) = decide (V.int (((i : Nat) : Int) % ((perN (2 * q) (mL a) : Nat) : Int)) = V.int 0) := by
      rw [← Int.natCast_emod]
      refine decide_eq_decide.mpr ⟨fun z => by rw [z]; rfl, fun z => ?_⟩
      injection z with z
      omega
    rw [al_per q5 iq ma, eb]
    rw [show ∀ (x : V), (!decide (x = x)) = false from fun x => by simp]
    exact iteF (end5 _ _ s6)
  · obtain ⟨⟨y3, y4, y5, y6, y7, rfl⟩, ap, hBW⟩ := z
    exact qq _ ((ap_same sG).trans ap) (hBW.mono (by omega))
end
end K34

set_option Elab.async false
set_option linter.all false
set_option maxRecDepth 100000
set_option maxHeartbeats 4000000
namespace K34
open PySem PySem.Spec PyProof.Rows L2 Hs Hm
section
variable {P : Program} {w : World} {K : PySem.W.Frag} {mg : Str → Option Value} {base : Heap} {f : Addr} {fd : FuncData}
def seatL : List Int := [0, 12, 8, 6, 4, 2, 16, 18, 22, 1, 3, 23, 10]
theorem seat_ok : seatL.map (amN 24) = [208012, 924, 70, 20, 6, 2, 70, 20, 2, 0, 0, 0, 2] := by decide +kernel
theorem six_ok : [amN 22 11, amN 22 2, amN 6 3, amN 2 1, amN 2 7, amN 4 1] = [462, 2, 3, 1, 1, 0] := by decide +kernel
def flatN (k : Nat) : Nat := k + 1 - 2 * (k % 2)
def acrN : Nat → Nat := fun i => [3, 2, 1, 0, 5, 4].getD i 0
theorem flat_al : (List.range 24).all (fun i => mvN 24 2 flatN i == flatN i) = true := by decide +kernel
theorem known_per : perN 24 flatN = 2 ∧ perN 6 acrN = 3 := by decide +kernel
theorem acr_al : (List.range 6).all (fun i => mvN 6 3 acrN i == acrN i) = true := by decide +kernel
theorem flat_lt : ∀ k, k < 24 → flatN k < 24 := fun k h => by unfold flatN; omega
theorem acr_lt : ∀ k, k < 6 → acrN k < 6 := by decide
theorem small_ints : ∀ l : List Nat, l.length ≤ 1000 → PyData.depth (.list (l.map fun t => PyData.int (t : Nat))) < 8 ∧ numD (.list (l.map fun t => PyData.int (t : Nat))) ≤ 100000 := by
  have one : ∀ l : List Nat, PyData.depthAll (l.map fun t => PyData.int (t : Nat)) = 0 ∧ numL (l.map fun t => PyData.int (t : Nat)) = l.length := by
    intro l
    induction l with
    | nil => exact ⟨rfl, rfl⟩
    | cons x l ih =>
      refine ⟨?_, ?_⟩
      · show max 0 (PyData.depthAll _) = 0; rw [ih.1]; rfl
      · show 1 + numL _ = l.length + 1; rw [ih.2]; omega
  intro l h
  refine ⟨?_, ?_⟩
  · show PyData.depthAll _ + 1 < 8; rw [(one l).1]; decide
  · show numL _ + 1 ≤ 100000; rw [(one l).2]; omega
theorem dp_nats {H : Hp} {p : Addr} {l : List Nat} (h : SqL K H p (natV l)) : Dp K H (.ref p) (.list (l.map fun t => PyData.int (t : Nat))) := .lst h (dpAll_row2 (m := fun y => y) _)
def spKn (K : PySem.W.Frag) : Sp := fun vs H Q _ => vs = [] ∧ ∀ G, Same H G → Q (.bl true) G
abbrev nKn : List Str := ["_law_told", "_law_flat", "_law_across", "_law_seats_so", "_law_k"]
theorem scKn : FnScope nKn [] (defScope sKnownRight) := ⟨rfl, rfl, rfl, by decide +kernel, rfl, by decide +kernel, by decide +kernel⟩
theorem ok_kn {k : Nat} (F : Fun K "_law_known_right" "_law_known_right" sKnownRight f fd) (B : B0 mg) {fSa : Addr} {dSa : FuncData} (Sa : Fx P w K mg base k "_law_same" ["_law_found", "_law_due"] (spSame K 8) fSa dSa) {fPe : Addr} {dPe : FuncData} (Pe : Fx P w K mg base k "period" ["arrangement"] (spPer K) fPe dPe) {fAm : Addr} {dAm : FuncData} (Am : Fx P w K mg base k "alike_many" ["people", "seats"] (spAm K) fAm dAm) {fTu : Addr} {dTu : FuncData} (Tu : Fx P w K mg base k "turned" ["arrangement", "seats"] (spTurned K) fTu dTu) : FnOk P w K mg base CX0 (k + 1) f fd [] (spKn K) := by
  refine F.ok scKn (fun vs H Q E h => ?_) (fun cdv A outer s H vs Q E hr h => ?_)
  · obtain ⟨rfl, _⟩ := h; rfl
  obtain ⟨rfl, q⟩ := h
  refine ⟨_, (pss_cons (ps_setLc (i := 0) (own := [("_law_seats_so", 3)]) (g := (gName 3)) (tt := tYes)  (by rfl) scKn.nd  rfl rfl (sw_true rfl rfl rfl (by decide +kernel)) (pi_tup (pe_tup (pa_cons pe_int (pa_cons pe_int (pa_cons pe_int (pa_cons pe_int (pa_cons pe_int (pa_cons pe_int (pa_cons pe_int (pa_cons pe_int (pa_cons pe_int (pa_cons pe_int (pa_cons pe_int (pa_cons pe_int (pa_cons pe_int pa_nil))))))))))))))) (blkOk_by (own := [("_law_seats_so", 3)]) (N := nKn) (sc := defScope sKnownRight) (by decide +kernel)) (fun _ _ _ _ _ => (pg_name (i := 3) scKn.nd rfl (.inl rfl))) (fun _ _ _ _ _ => pts_nil) (fun _ _ _ _ _ => (pe_call Am.ok hr (by rfl) Am.m Am.k Am.b .nil pass0 (pa_cons pe_int (pa_cons (pv 3) pa_nil)))))
    (pss_cons (ps_if (pt_not (pt_val (pe_call Sa.ok hr (by rfl) Sa.m Sa.k Sa.b .nil pass0 (pa_cons (pv 0) (pa_cons (pe_lst (pa_cons pe_int (pa_cons pe_int (pa_cons pe_int (pa_cons pe_int (pa_cons pe_int (pa_cons pe_int (pa_cons pe_int (pa_cons pe_int (pa_cons pe_int (pa_cons pe_int (pa_cons pe_int (pa_cons pe_int (pa_cons pe_int pa_nil)))))))))))))) pa_nil))))) (pss_one (ps_ret pe_bl)) pss_nil)
    (pss_cons (ps_set (i := 0) scKn.nd rfl (.inl rfl) (pe_lst (pa_cons (pe_call Am.ok hr (by rfl) Am.m Am.k Am.b .nil pass0 (pa_cons pe_int (pa_cons pe_int pa_nil))) (pa_cons (pe_call Am.ok hr (by rfl) Am.m Am.k Am.b .nil pass0 (pa_cons pe_int (pa_cons pe_int pa_nil))) (pa_cons (pe_call Am.ok hr (by rfl) Am.m Am.k Am.b .nil pass0 (pa_cons pe_int (pa_cons pe_int pa_nil))) (pa_cons (pe_call Am.ok hr (by rfl) Am.m Am.k Am.b .nil pass0 (pa_cons pe_int (pa_cons pe_int pa_nil))) (pa_cons (pe_call Am.ok hr (by rfl) Am.m Am.k Am.b .nil pass0 (pa_cons pe_int (pa_cons pe_int pa_nil))) pa_nil)))))))
    (pss_cons (ps_set (i := 0) scKn.nd rfl (.inl rfl) (pe_op op_cat (pv 0) (pe_lst (pa_cons (pe_call Am.ok hr (by rfl) Am.m Am.k Am.b .nil pass0 (pa_cons pe_int (pa_cons pe_int pa_nil))) pa_nil))))
    (pss_cons (ps_if (pt_not (pt_val (pe_call Sa.ok hr (by rfl) Sa.m Sa.k Sa.b .nil pass0 (pa_cons (pv 0) (pa_cons (pe_lst (pa_cons pe_int (pa_cons pe_int (pa_cons pe_int (pa_cons pe_int (pa_cons pe_int (pa_cons pe_int pa_nil))))))) pa_nil))))) (pss_one (ps_ret pe_bl)) pss_nil)
    (pss_cons (ps_par (i := 1) (j := 2) (by rfl) scKn.nd rfl rfl (by decide) rfl rfl (pa_cons (pe_callTy call_tuple_of (by rfl) B.tuple PyProof.Rows.boot_tuple (pa_cons (pe_lc (own := [("_law_k", 4)]) (g := (gName 4)) (tt := tYes)  (by rfl) scKn.nd (pi_range1 (by rfl) B.range (pa_cons pe_int pa_nil)) (blkOk_by (own := [("_law_k", 4)]) (N := nKn) (sc := defScope sKnownRight) (by decide +kernel)) (fun _ _ _ _ _ => (pg_name (i := 4) scKn.nd rfl (.inl rfl))) (fun _ _ _ _ _ => pts_nil) (fun _ _ _ _ _ => (pe_op op_sub (pe_op op_add (pv 4) pe_int) (pe_op op_mul pe_int (pe_op op_mod (pv 4) pe_int))))) pa_nil)) (pa_cons (pe_tup (pa_cons pe_int (pa_cons pe_int (pa_cons pe_int (pa_cons pe_int (pa_cons pe_int (pa_cons pe_int pa_nil))))))) pa_nil)) (by rfl))
    (pss_one (ps_ret (pe_and (pe_cmpR (op_eqD hr.units) (pe_call Tu.ok hr (by rfl) Tu.m Tu.k Tu.b .nil pass0 (pa_cons (pv 1) (pa_cons pe_int pa_nil))) (pv 1) (nomark _)) (pe_one (pe_cmpR (op_eqD hr.units) (pe_lst (pa_cons (pe_call Pe.ok hr (by rfl) Pe.m Pe.k Pe.b .nil pass0 (pa_cons (pv 1) pa_nil)) (pa_cons (pe_call Pe.ok hr (by rfl) Pe.m Pe.k Pe.b .nil pass0 (pa_cons (pv 2) pa_nil)) (pa_cons (pe_cmpR (op_eqD hr.units) (pe_call Tu.ok hr (by rfl) Tu.m Tu.k Tu.b .nil pass0 (pa_cons (pv 2) (pa_cons pe_int pa_nil))) (pv 2) (nomark _)) pa_nil)))) (pe_lst (pa_cons pe_int (pa_cons pe_int (pa_cons pe_bl pa_nil)))) (nomark _)))))))))))), ?_⟩
  refine ⟨by show 13 ≤ sizeLine; decide, fun t nt => ?_⟩
  have st := same_new (o := .tup (seatL.map V.int)) nt
  have et : (upd H t (.tup (seatL.map V.int))) t = _ := upd_same
  refine ⟨t, rfl, ⟨_, SqT.of et⟩, fun D nD => ?_⟩
  refine lc_it (walk_tup (K := K) (a := t) (xs := seatL.map V.int)) (fun j J => Same (upd H t (.tup (seatL.map V.int))) J ∧ J D = some (.lst (natV ((seatL.take j).map (amN 24))))) ⟨same_new nD, upd_same⟩ (fun j J _ z => same_tup z.1 (SqT.of et)) (fun j x J Ja hj z y => ?_) (fun J z => ?_)
  · obtain ⟨sj, eD⟩ := z
    obtain ⟨rfl, ex⟩ := y
    rw [List.getElem?_map] at ex
    obtain ⟨se, ese, rfl⟩ := Option.map_eq_some_iff.mp ex
    have hj13 : j < 13 := hj
    refine ⟨rfl, _, rfl, 24, se, rfl, by decide, _, eD, ?_, same_grow nD sj, ?_⟩
    · rw [natV_len, List.length_map]
      have := List.length_take_le j seatL
      exact small1000 (by omega)
    · rw [upd_same, take_snoc ese, List.map_append]
      unfold natV
      rw [List.map_append]; rfl
  obtain ⟨sj, eD⟩ := z
  rw [List.length_map, List.take_length, seat_ok] at eD
  have s1 : Same H J := st.trans sj
  refine ⟨_, rfl, by show 13 ≤ sizeLine; decide, fun t2 nt2 => ?_⟩
  have s2 := same_new (o := .lst (natV [208012, 924, 70, 20, 6, 2, 70, 20, 2, 0, 0, 0, 2])) nt2
  obtain ⟨sm1, sm2⟩ := small_ints [208012, 924, 70, 20, 6, 2, 70, 20, 2, 0, 0, 0, 2] (by decide)
  refine ⟨_, _, _, rfl, dp_nats (SqL.of (s2 _ _ eD)), dp_nats (SqL.of upd_same), sm1, sm2, fun W s3 => ⟨_, rfl, iteF ?_⟩⟩
  have sW := (s1.trans s2).trans s3
  clear sm1 sm2 s3 s2 nt2 t2 eD sj s1
  refine ⟨22, 11, rfl, by decide, 22, 2, rfl, by decide, 6, 3, rfl, by decide, 2, 1, rfl, by decide, 2, 7, rfl, by decide, by show 5 ≤ sizeLine; decide, fun t1 nt1 => ?_⟩
  have s1 := same_new (o := .lst (natV [amN 22 11, amN 22 2, amN 6 3, amN 2 1, amN 2 7])) nt1
  refine ⟨_, rfl, 4, 1, rfl, by decide, by show 1 ≤ sizeLine; decide, fun t2 nt2 => ?_⟩
  have s2 := same_new (o := .lst (natV [amN 4 1])) nt2
  refine ⟨t1, t2, natV [amN 22 11, amN 22 2, amN 6 3, amN 2 1, amN 2 7], natV [amN 4 1], rfl, rfl, s2 _ _ upd_same, upd_same, by show 5 + 1 ≤ sizeLine; decide, fun t3 nt3 => ?_⟩
  rw [show natV [amN 22 11, amN 22 2, amN 6 3, amN 2 1, amN 2 7] ++ natV [amN 4 1] = natV [462, 2, 3, 1, 1, 0] from by rw [← six_ok]; rfl]
  have s3 := same_new (o := .lst (natV [462, 2, 3, 1, 1, 0])) nt3
  refine ⟨_, rfl, by show 6 ≤ sizeLine; decide, fun t4 nt4 => ?_⟩
  have s4 := same_new (o := .lst (natV [462, 2, 3, 1, 1, 0])) nt4
  obtain ⟨sm1, sm2⟩ := small_ints [462, 2, 3, 1, 1, 0] (by decide)
  refine ⟨_, _, _, rfl, dp_nats (SqL.of (s4 _ _ upd_same)), dp_nats (SqL.of upd_same), sm1, sm2, fun W2 s5 => ⟨_, rfl, iteF ?_⟩⟩
  have sX := (((sW.trans s1).trans s2).trans (s3.trans s4)).trans s5
  clear sm1 sm2 s5 s4 s3 s2 s1
  refine ⟨24, rfl, by decide, by decide, fun C nC => ?_⟩
  refine lc_it (walk_range0 (n := 24)) (fun j J => Same W2 J ∧ J C = some (.lst (natV ((List.range j).map flatN)))) ⟨same_new nC, upd_same⟩ (fun _ _ _ _ => trivial) (fun j x J Ja hj p y => ?_) (fun J p => ?_)
  · obtain ⟨sj, eC⟩ := p
    obtain ⟨rfl, rfl⟩ := y
    refine ⟨rfl, _, rfl, _, _, rfl, rfl, _, rfl, _, _, rfl, rfl, (by show (0 : Int) < 2; decide), _, _, rfl, rfl, .inl ⟨by decide, by decide⟩, _, _, rfl, rfl, _, eC, ?_, same_grow nC sj, ?_⟩
    · rw [natV_len, List.length_map, List.length_range]; exact small1000 (by omega)
    · rw [upd_same, List.range_succ, List.map_append]
      unfold natV
      rw [List.map_append]
      show some (HO.lst (_ ++ [V.int ((j : Int) + 1 - 2 * ((j : Int) % 2))])) = some (HO.lst (_ ++ [V.int ((j + 1 - 2 * (j % 2) : Nat) : Int)]))
      rw [show ((j : Int) + 1 - 2 * ((j : Int) % 2)) = ((j + 1 - 2 * (j % 2) : Nat) : Int) by omega]
  obtain ⟨sj, eC⟩ := p
  refine ⟨C, _, rfl, .inl ⟨SqL.of eC, fun u nu => ?_⟩⟩
  rw [show natV ((List.range 24).map flatN) = rowV 24 flatN from by unfold natV rowV; rw [List.map_map]; rfl]
  have s1 := same_new (o := .tup (rowV 24 flatN)) nu
  refine ⟨by show 6 ≤ sizeLine; decide, fun v nv => ?_⟩
  have s2 := same_new (o := .tup (rowV 6 acrN)) nv
  have eu := s2 _ _ (upd_same (H := J) (a := u) (o := .tup (rowV 24 flatN)))
  have ev : (upd (upd J u (.tup (rowV 24 flatN))) v (.tup (rowV 6 acrN))) v = _ := upd_same
  have sY := sX.trans (sj.trans (s1.trans s2))
  have alF : Al 24 flatN 2 := fun i hi => by simpa using List.all_eq_true.mp flat_al i (List.mem_range.mpr hi)
  have alA : Al 6 acrN 3 := fun i hi => by simpa using List.all_eq_true.mp acr_al i (List.mem_range.mpr hi)
  refine ⟨_, _, rfl, ?_⟩
  refine ⟨_, rfl, u, 24, flatN, 2, rfl, .inl (SqT.of eu), by decide, fun p1 G1 t1 np1 ep1 => ?_⟩
  refine ⟨_, rfl, _, _, dp_rowD (SqT.of ep1), dp_rowD (SqT.of (t1 _ _ eu)), shaped_rowT _ _, shaped_rowT _ _, ?_⟩
  rw [eqv_al, decide_eq_true alF]
  refine ⟨_, rfl, ?_⟩
  refine iteT ?_
  refine ⟨_, rfl, u, 24, flatN, rfl, .inl (SqT.of (t1 _ _ eu)), by decide, flat_lt, fun G2 t2 => ?_⟩
  have ev2 := t2 _ _ (t1 _ _ ev)
  refine ⟨_, rfl, v, 6, acrN, rfl, .inl (SqT.of ev2), by decide, acr_lt, fun G3 t3 => ?_⟩
  have ev3 := t3 _ _ ev2
  refine ⟨_, rfl, v, 6, acrN, 3, rfl, .inl (SqT.of ev3), by decide, fun p4 G4 t4 np4 ep4 => ?_⟩
  refine ⟨_, rfl, _, _, dp_rowD (SqT.of ep4), dp_rowD (SqT.of (t4 _ _ ev3)), shaped_rowT _ _, shaped_rowT _ _, ?_⟩
  rw [eqv_al, decide_eq_true alA, known_per.1, known_per.2]
  refine ⟨by show 3 ≤ sizeLine; decide, fun l1 nl1 => ⟨by show 3 ≤ sizeLine; decide, fun l2 nl2 => ?_⟩⟩
  have t5 := same_new (o := .lst [.int 2, .int 3, .bl true]) nl1
  have t6 := same_new (o := .lst [.int 2, .int 3, .bl true]) nl2
  refine ⟨.list [.int 2, .int 3, .bool true], .list [.int 2, .int 3, .bool true], .lst (SqL.of (t6 _ _ upd_same)) (.cons (.int _) (.cons (.int _) (.cons (.bl _) .nil))), .lst (SqL.of upd_same) (.cons (.int _) (.cons (.int _) (.cons (.bl _) .nil))), by decide, by decide, ?_⟩
  exact q _ ((((sY.trans t1).trans t2).trans (t3.trans t4)).trans (t5.trans t6))
def spRight (K : PySem.W.Frag) : Sp := fun vs H Q _ => ∃ (b : Addr) (N : Nat), vs = [.ref b] ∧ BoxAt H b (N + 200) ∧ ∀ G, Ap b H G → BoxAt G b N → Q (.bl true) G
abbrev nRight : List Str := ["_law_box_here"]
theorem scRight : FnScope nRight ["_law_box_here"] (defScope sRight) := ⟨rfl, rfl, rfl, by decide +kernel, rfl, by decide +kernel, by decide +kernel⟩
theorem ok_right {k : Nat} (F : Fun K "_law_right" "_law_right" sRight f fd) (B : B0 mg) {fFe : Addr} {dFe : FuncData} (Fe : Fx P w K mg base k "_law_few_right" ["_law_box_here", "_law_size"] (spFew K) fFe dFe) {fTa : Addr} {dTa : FuncData} (Ta : Fx P w K mg base k "_law_take" ["_law_box_here", "_law_below"] (spTake K) fTa dTa) {fKn : Addr} {dKn : FuncData} (Kn : Fx P w K mg base k "_law_known_right" [] (spKn K) fKn dKn) : FnOk P w K mg base CX0 (k + 1) f fd ["_law_box_here"] (spRight K) := by
  refine F.ok scRight (fun vs H Q E h => ?_) (fun cdv A outer s H vs Q E hr h => ?_)
  · obtain ⟨b, N, rfl, _⟩ := h; rfl
  obtain ⟨b, N, rfl, hB, q⟩ := h
  refine ⟨_, (pss_one (ps_ret (pe_and (pe_call Fe.ok hr (by rfl) Fe.m Fe.k Fe.b .nil pass0 (pa_cons (pv 0) (pa_cons (pe_op op_mul pe_int (pe_call Ta.ok hr (by rfl) Ta.m Ta.k Ta.b .nil pass0 (pa_cons (pv 0) (pa_cons pe_int pa_nil)))) pa_nil))) (pe_one (pe_call0 Kn.ok hr (by rfl) Kn.m Kn.k Kn.b .nil pass0))))), ?_⟩
  refine ⟨_, rfl, _, rfl, b, 6, N + 60, rfl, by decide, by decide, hB.mono (by omega), fun r W r0 r1 ap hBW => ⟨_, _, rfl, rfl, .inl ⟨by decide, by decide⟩, ?_⟩⟩
  obtain ⟨fw, rfl⟩ : ∃ fw : Nat, r = (fw : Nat) := ⟨r.toNat, by omega⟩
  refine ⟨b, fw, N, rfl, by omega, hBW.mono (by omega), fun G ap2 hB2 => ⟨_, rfl, iteT ⟨rfl, fun G2 s2 => q _ ((ap.trans ap2).trans (ap_same s2)) (hB2.same s2)⟩⟩⟩
end
end K34

set_option Elab.async false
set_option linter.all false
set_option maxRecDepth 100000
set_option maxHeartbeats 4000000
namespace K34
open PySem PySem.Spec PyProof.Rows L2 Hs Hm
section
variable {P : Program} {w : World} {K : PySem.W.Frag} {mg : Str → Option Value} {base : Heap} {f : Addr} {fd : FuncData}
def spLaw (K : PySem.W.Frag) : Sp := fun vs H Q _ => ∃ (a : Addr) (ns : List Int), vs = [.ref a] ∧ SqL K H a (ns.map V.int) ∧ ns.length ≤ 63 ∧ ∀ G, Q (.bl true) G
abbrev lawN : List Str := ["_law_script", "_law_k"]
theorem scLaw : FnScope lawN ["_law_script"] (defScope sLaw) := ⟨rfl, rfl, rfl, by decide +kernel, rfl, by decide +kernel, by decide +kernel⟩
theorem ok_law {k : Nat} {fB fR : Addr} {dB dR : FuncData} (F : Fun K "law" "law" sLaw f fd) (B : B0 mg) (Bo : Fx P w K mg base k "_law_box" ["_law_script", "_law_k"] (spBox K) fB dB)
    (R : FnOk P w K mg base CX0 k fR dR ["_law_box_here"] (spRight K)) (mR : mg "_law_right" = some (.ref fR)) (kR : PySem.W.keepIn K (.ref fR) = true) (bR : Binds K dR ["_law_box_here"] []) :
    FnOk P w K mg base CX0 (k + 1) f fd ["_law_script"] (spLaw K) := by
  refine F.ok scLaw (fun vs H Q E h => ?_) (fun cdv A outer s H vs Q E hr h => ?_)
  · obtain ⟨a, ns, rfl, _⟩ := h; rfl
  obtain ⟨a, ns, rfl, hS, hn, q⟩ := h
  refine ⟨_, pss_one (ps_ret (pe_callB (cr_all rfl) (by rfl) B.all PyProof.Rows.boot_all (pa_cons (pe_lc (own := [("_law_k", 1)]) (g := gName 1) (tt := tYes) (te := tCall (spRight K) [] E0 (tCons (tCall (spBox K) [] E0 (tCons (tVar 0) (tCons (tVar 1) tNil))) tNil)) (by rfl) scLaw.nd (pi_range1 (by rfl) B.range (pa_cons (pe_op op_add pe_int (pe_callB (call_min2 rfl) (by rfl) B.min PyProof.Rows.boot_min (pa_cons pe_int (pa_cons (pe_callB call_len_seq (by rfl) B.len PySem.boot_len (pa_cons (pv 0) pa_nil)) pa_nil)))) pa_nil))
        (blkOk_by (N := lawN) (sc := defScope sLaw) (by decide +kernel)) (fun _ _ _ _ _ => pg_name (i := 1) scLaw.nd rfl (Or.inl rfl)) (fun _ _ _ _ _ => pts_nil) (fun _ _ _ _ _ => pe_call R hr (by rfl) mR kR bR .nil pass0 (pa_cons (pe_call Bo.ok hr (by rfl) Bo.m Bo.k Bo.b .nil pass0 (pa_cons (pv 0) (pa_cons (pv 1) pa_nil))) pa_nil))) pa_nil))), ?_⟩
  have z0 : (0 : Int) ≤ (if ((((ns.map V.int).length : Nat) : Int)) < 3 then (((ns.map V.int).length : Nat) : Int) else 3) ∧ (if ((((ns.map V.int).length : Nat) : Int)) < 3 then (((ns.map V.int).length : Nat) : Int) else 3) ≤ 3 := by split <;> omega
  refine ⟨_, rfl, a, _, rfl, .inl hS, _, _, rfl, _, _, rfl, rfl, _, rfl, (by show -(2 ^ 62) ≤ (1 : Int) + _; omega), (by show (1 : Int) + _ < 2 ^ 62; omega), fun D nD => ?_⟩
  refine lc_it (walk_range (lo := 0)) (fun j J => Same H J ∧ J D = some (.lst ((List.replicate j true).map V.bl))) ⟨same_new nD, upd_same⟩ (fun _ _ _ _ => trivial) (fun j x J J' hj p y => ?_) (fun J p => ?_)
  · obtain ⟨sm, hD⟩ := p
    obtain ⟨rfl, rfl⟩ := y
    refine ⟨rfl, _, rfl, _, rfl, a, ns, _, rfl, sm.seq hS, (by show (0 : Int) ≤ 0 + (j : Int); omega), fun b x y nb hx => ?_⟩
    have nDb : D ≠ b := ne_of_none hD nb
    have s1 : Same J' (upd J' b (.lst [.int x, .int y, .int 0])) := same_new nb
    have hB : BoxAt (upd J' b (.lst [.int x, .int y, .int 0])) b 200 := ⟨x, y, 0, upd_same, hx, Int.le_refl 0, by decide⟩
    have hS1 : Same H (hid (upd J' b (.lst [.int x, .int y, .int 0])) b) := by rw [hid_upd, hid_id nb]; exact sm
    have hD1 := s1 _ _ hD
    generalize upd J' b (.lst [.int x, .int y, .int 0]) = G1 at s1 hB hS1 hD1
    refine ⟨b, 0, rfl, hB, fun J2 ap2 hB2 => ?_⟩
    have hD2 := ap_get ap2 hD1 nDb
    have sH : Same H J2 := (hS1.trans ap2).trans (hid_same J2 b)
    refine ⟨_, hD2, ?_, same_grow nD sH, ?_⟩
    · have l := hj
      rw [List.length_map, List.length_replicate]; exact small1000 (by omega)
    · rw [upd_same, List.replicate_succ', List.map_append]; rfl
  · obtain ⟨sm, hD⟩ := p
    refine ⟨D, _, rfl, SqL.of hD, ?_⟩
    rw [all_true]; exact q _
end
end K34

set_option Elab.async false
set_option linter.all false
set_option maxRecDepth 100000
set_option maxHeartbeats 4000000
namespace K34
open PySem PySem.Spec PyProof.Rows L2 Hs Hm
theorem all_mk {l : PySem.W.OpenLaw} {w : World} {K : PySem.W.Frag} {h : Heap} {mg : Str → Option Value} {fa f1 f2 f3 f4 f5 f6 f7 f8 f9 f10 f11 f12 f13 f14 f15 f16 f17 : Addr} (X : K.In h) (G : h.Ns mainGlobals mg) (hfa : mg "law" = some (.ref fa))
    {od1 an1 od2 an2 od3 an3 od4 an4 od5 an5 od6 an6 od7 an7 od8 an8 od9 an9 od10 an10 od11 an11 od12 an12 od13 an13 od14 an14 od15 an15 od16 an16 od17 an17 : Option Addr} {sl1 sl2 sl3 sl4 sl5 sl6 sl7 sl8 sl9 sl10 sl11 sl12 sl13 sl14 sl15 sl16 sl17 : Array (Option Value)} {oc1 kV1 dc1 pm1 cd1 ct1 oc2 kV2 dc2 pm2 cd2 ct2 oc3 kV3 dc3 pm3 cd3 ct3 oc4 kV4 dc4 pm4 cd4 ct4 oc5 kV5 dc5 pm5 cd5 ct5 oc6 kV6 dc6 pm6 cd6 ct6 oc7 kV7 dc7 pm7 cd7 ct7 oc8 kV8 dc8 pm8 cd8 ct8 oc9 kV9 dc9 pm9 cd9 ct9 oc10 kV10 dc10 pm10 cd10 ct10 oc11 kV11 dc11 pm11 cd11 ct11 oc12 kV12 dc12 pm12 cd12 ct12 oc13 kV13 dc13 pm13 cd13 ct13 oc14 kV14 dc14 pm14 cd14 ct14 oc15 kV15 dc15 pm15 cd15 ct15 oc16 kV16 dc16 pm16 cd16 ct16 oc17 kV17 dc17 pm17 cd17 ct17 : Value}
    (a1 : PySem.W.nsIn K mainGlobals "common_divisor" = some (some (.ref f1)))
    (l1 : K.lookup f1 = some ⟨oc1, od1, .func (PySem.W.fnOf "common_divisor" "common_divisor" (defArgs sCommonDivisor) (defBody sCommonDivisor) (defScope sCommonDivisor) .none kV1 dc1 pm1 an1 cd1 ct1), sl1⟩)
    (c1 : PySem.W.codeIn K cd1 "common_divisor" = true)
    (k1 : PySem.W.keepIn K (.ref f1) = true)
    (a2 : PySem.W.nsIn K mainGlobals "choices" = some (some (.ref f2)))
    (l2 : K.lookup f2 = some ⟨oc2, od2, .func (PySem.W.fnOf "choices" "choices" (defArgs sChoices) (defBody sChoices) (defScope sChoices) .none kV2 dc2 pm2 an2 cd2 ct2), sl2⟩)
    (c2 : PySem.W.codeIn K cd2 "choices" = true)
    (k2 : PySem.W.keepIn K (.ref f2) = true)
    (a3 : PySem.W.nsIn K mainGlobals "catalan" = some (some (.ref f3)))
    (l3 : K.lookup f3 = some ⟨oc3, od3, .func (PySem.W.fnOf "catalan" "catalan" (defArgs sCatalan) (defBody sCatalan) (defScope sCatalan) .none kV3 dc3 pm3 an3 cd3 ct3), sl3⟩)
    (c3 : PySem.W.codeIn K cd3 "catalan" = true)
    (k3 : PySem.W.keepIn K (.ref f3) = true)
    (a4 : PySem.W.nsIn K mainGlobals "turned" = some (some (.ref f4)))
    (l4 : K.lookup f4 = some ⟨oc4, od4, .func (PySem.W.fnOf "turned" "turned" (defArgs sTurned) (defBody sTurned) (defScope sTurned) .none kV4 dc4 pm4 an4 cd4 ct4), sl4⟩)
    (c4 : PySem.W.codeIn K cd4 "turned" = true)
    (k4 : PySem.W.keepIn K (.ref f4) = true)
    (a5 : PySem.W.nsIn K mainGlobals "period" = some (some (.ref f5)))
    (l5 : K.lookup f5 = some ⟨oc5, od5, .func (PySem.W.fnOf "period" "period" (defArgs sPeriod) (defBody sPeriod) (defScope sPeriod) .none kV5 dc5 pm5 an5 cd5 ct5), sl5⟩)
    (c5 : PySem.W.codeIn K cd5 "period" = true)
    (k5 : PySem.W.keepIn K (.ref f5) = true)
    (a6 : PySem.W.nsIn K mainGlobals "alike_many" = some (some (.ref f6)))
    (l6 : K.lookup f6 = some ⟨oc6, od6, .func (PySem.W.fnOf "alike_many" "alike_many" (defArgs sAlikeMany) (defBody sAlikeMany) (defScope sAlikeMany) .none kV6 dc6 pm6 an6 cd6 ct6), sl6⟩)
    (c6 : PySem.W.codeIn K cd6 "alike_many" = true)
    (k6 : PySem.W.keepIn K (.ref f6) = true)
    (a7 : PySem.W.nsIn K mainGlobals "_law_cell_at" = some (some (.ref f7)))
    (l7 : K.lookup f7 = some ⟨oc7, od7, .func (PySem.W.fnOf "_law_cell_at" "_law_cell_at" (defArgs sCellAt) (defBody sCellAt) (defScope sCellAt) .none kV7 dc7 pm7 an7 cd7 ct7), sl7⟩)
    (c7 : PySem.W.codeIn K cd7 "_law_cell_at" = true)
    (k7 : PySem.W.keepIn K (.ref f7) = true)
    (a8 : PySem.W.nsIn K mainGlobals "_law_box" = some (some (.ref f8)))
    (l8 : K.lookup f8 = some ⟨oc8, od8, .func (PySem.W.fnOf "_law_box" "_law_box" (defArgs sBox) (defBody sBox) (defScope sBox) .none kV8 dc8 pm8 an8 cd8 ct8), sl8⟩)
    (c8 : PySem.W.codeIn K cd8 "_law_box" = true)
    (k8 : PySem.W.keepIn K (.ref f8) = true)
    (a9 : PySem.W.nsIn K mainGlobals "_law_take" = some (some (.ref f9)))
    (l9 : K.lookup f9 = some ⟨oc9, od9, .func (PySem.W.fnOf "_law_take" "_law_take" (defArgs sTake) (defBody sTake) (defScope sTake) .none kV9 dc9 pm9 an9 cd9 ct9), sl9⟩)
    (c9 : PySem.W.codeIn K cd9 "_law_take" = true)
    (k9 : PySem.W.keepIn K (.ref f9) = true)
    (a10 : PySem.W.nsIn K mainGlobals "_law_of" = some (some (.ref f10)))
    (l10 : K.lookup f10 = some ⟨oc10, od10, .func (PySem.W.fnOf "_law_of" "_law_of" (defArgs sOf) (defBody sOf) (defScope sOf) .none kV10 dc10 pm10 an10 cd10 ct10), sl10⟩)
    (c10 : PySem.W.codeIn K cd10 "_law_of" = true)
    (k10 : PySem.W.keepIn K (.ref f10) = true)
    (a11 : PySem.W.nsIn K mainGlobals "_law_same" = some (some (.ref f11)))
    (l11 : K.lookup f11 = some ⟨oc11, od11, .func (PySem.W.fnOf "_law_same" "_law_same" (defArgs sSame) (defBody sSame) (defScope sSame) .none kV11 dc11 pm11 an11 cd11 ct11), sl11⟩)
    (c11 : PySem.W.codeIn K cd11 "_law_same" = true)
    (k11 : PySem.W.keepIn K (.ref f11) = true)
    (a12 : PySem.W.nsIn K mainGlobals "_law_every" = some (some (.ref f12)))
    (l12 : K.lookup f12 = some ⟨oc12, od12, .func (PySem.W.fnOf "_law_every" "_law_every" (defArgs sEvery) (defBody sEvery) (defScope sEvery) .none kV12 dc12 pm12 an12 cd12 ct12), sl12⟩)
    (c12 : PySem.W.codeIn K cd12 "_law_every" = true)
    (k12 : PySem.W.keepIn K (.ref f12) = true)
    (a13 : PySem.W.nsIn K mainGlobals "_law_moved" = some (some (.ref f13)))
    (l13 : K.lookup f13 = some ⟨oc13, od13, .func (PySem.W.fnOf "_law_moved" "_law_moved" (defArgs sMoved) (defBody sMoved) (defScope sMoved) .none kV13 dc13 pm13 an13 cd13 ct13), sl13⟩)
    (c13 : PySem.W.codeIn K cd13 "_law_moved" = true)
    (k13 : PySem.W.keepIn K (.ref f13) = true)
    (a14 : PySem.W.nsIn K mainGlobals "_law_few_right" = some (some (.ref f14)))
    (l14 : K.lookup f14 = some ⟨oc14, od14, .func (PySem.W.fnOf "_law_few_right" "_law_few_right" (defArgs sFewRight) (defBody sFewRight) (defScope sFewRight) .none kV14 dc14 pm14 an14 cd14 ct14), sl14⟩)
    (c14 : PySem.W.codeIn K cd14 "_law_few_right" = true)
    (k14 : PySem.W.keepIn K (.ref f14) = true)
    (a15 : PySem.W.nsIn K mainGlobals "_law_known_right" = some (some (.ref f15)))
    (l15 : K.lookup f15 = some ⟨oc15, od15, .func (PySem.W.fnOf "_law_known_right" "_law_known_right" (defArgs sKnownRight) (defBody sKnownRight) (defScope sKnownRight) .none kV15 dc15 pm15 an15 cd15 ct15), sl15⟩)
    (c15 : PySem.W.codeIn K cd15 "_law_known_right" = true)
    (k15 : PySem.W.keepIn K (.ref f15) = true)
    (a16 : PySem.W.nsIn K mainGlobals "_law_right" = some (some (.ref f16)))
    (l16 : K.lookup f16 = some ⟨oc16, od16, .func (PySem.W.fnOf "_law_right" "_law_right" (defArgs sRight) (defBody sRight) (defScope sRight) .none kV16 dc16 pm16 an16 cd16 ct16), sl16⟩)
    (c16 : PySem.W.codeIn K cd16 "_law_right" = true)
    (k16 : PySem.W.keepIn K (.ref f16) = true)
    (a17 : PySem.W.nsIn K mainGlobals "law" = some (some (.ref f17)))
    (l17 : K.lookup f17 = some ⟨oc17, od17, .func (PySem.W.fnOf "law" "law" (defArgs sLaw) (defBody sLaw) (defScope sLaw) .none kV17 dc17 pm17 an17 cd17 ct17), sl17⟩)
    (c17 : PySem.W.codeIn K cd17 "law" = true)
    (k17 : PySem.W.keepIn K (.ref f17) = true)
    (z1 : PySem.W.nsIn K mainGlobals "isinstance" = some none)
    (z2 : PySem.W.nsIn K mainGlobals "int" = some none)
    (z3 : PySem.W.nsIn K mainGlobals "bool" = some none)
    (z4 : PySem.W.nsIn K mainGlobals "list" = some none)
    (z5 : PySem.W.nsIn K mainGlobals "tuple" = some none)
    (z6 : PySem.W.nsIn K mainGlobals "len" = some none)
    (z7 : PySem.W.nsIn K mainGlobals "enumerate" = some none)
    (z8 : PySem.W.nsIn K mainGlobals "abs" = some none)
    (z9 : PySem.W.nsIn K mainGlobals "zip" = some none)
    (z10 : PySem.W.nsIn K mainGlobals "all" = some none)
    (z11 : PySem.W.nsIn K mainGlobals "range" = some none)
    (z12 : PySem.W.nsIn K mainGlobals "min" = some none)
    (z13 : PySem.W.nsIn K mainGlobals "max" = some none)
    (z14 : PySem.W.nsIn K mainGlobals "str" = some none)
    (z15 : PySem.W.nsIn K mainGlobals "sorted" = some none) :
    ∃ fd : FuncData, (∀ (s : Shared) (v : Value), BindsTo s fd ⟨[v], []⟩ [("_law_script", v)]) ∧ ∀ base : Heap, K.In base → base.Ns mainGlobals mg → FnOk l.prog w K mg base CX0 11 fa fd ["_law_script"] (spLaw K) := by
  have e := hfa.symm.trans (PySem.W.mg_of X G a17)
  cases e
  have F1 := fun_mk (st := sCommonDivisor) l1 c1 k1
  have b1 := F1.binds (ps := ["one", "other"]) fun _ _ _ _ _ _ us hl => match us, hl with | [_, _], _ => rfl
  have m1 := PySem.W.mg_of X G a1
  have F2 := fun_mk (st := sChoices) l2 c2 k2
  have b2 := F2.binds (ps := ["things", "chosen"]) fun _ _ _ _ _ _ us hl => match us, hl with | [_, _], _ => rfl
  have m2 := PySem.W.mg_of X G a2
  have F3 := fun_mk (st := sCatalan) l3 c3 k3
  have b3 := F3.binds (ps := ["pairs"]) fun _ _ _ _ _ _ us hl => match us, hl with | [_], _ => rfl
  have m3 := PySem.W.mg_of X G a3
  have F4 := fun_mk (st := sTurned) l4 c4 k4
  have b4 := F4.binds (ps := ["arrangement", "seats"]) fun _ _ _ _ _ _ us hl => match us, hl with | [_, _], _ => rfl
  have m4 := PySem.W.mg_of X G a4
  have F5 := fun_mk (st := sPeriod) l5 c5 k5
  have b5 := F5.binds (ps := ["arrangement"]) fun _ _ _ _ _ _ us hl => match us, hl with | [_], _ => rfl
  have m5 := PySem.W.mg_of X G a5
  have F6 := fun_mk (st := sAlikeMany) l6 c6 k6
  have b6 := F6.binds (ps := ["people", "seats"]) fun _ _ _ _ _ _ us hl => match us, hl with | [_, _], _ => rfl
  have m6 := PySem.W.mg_of X G a6
  have F7 := fun_mk (st := sCellAt) l7 c7 k7
  have b7 := F7.binds (ps := ["_law_script", "_law_k"]) fun _ _ _ _ _ _ us hl => match us, hl with | [_, _], _ => rfl
  have m7 := PySem.W.mg_of X G a7
  have F8 := fun_mk (st := sBox) l8 c8 k8
  have b8 := F8.binds (ps := ["_law_script", "_law_k"]) fun _ _ _ _ _ _ us hl => match us, hl with | [_, _], _ => rfl
  have m8 := PySem.W.mg_of X G a8
  have F9 := fun_mk (st := sTake) l9 c9 k9
  have b9 := F9.binds (ps := ["_law_box_here", "_law_below"]) fun _ _ _ _ _ _ us hl => match us, hl with | [_, _], _ => rfl
  have m9 := PySem.W.mg_of X G a9
  have F10 := fun_mk (st := sOf) l10 c10 k10
  have b10 := F10.binds (ps := ["_law_box_here", "_law_pool"]) fun _ _ _ _ _ _ us hl => match us, hl with | [_, _], _ => rfl
  have m10 := PySem.W.mg_of X G a10
  have F11 := fun_mk (st := sSame) l11 c11 k11
  have b11 := F11.binds (ps := ["_law_found", "_law_due"]) fun _ _ _ _ _ _ us hl => match us, hl with | [_, _], _ => rfl
  have m11 := PySem.W.mg_of X G a11
  have F12 := fun_mk (st := sEvery) l12 c12 k12
  have b12 := F12.binds (ps := ["_law_size"]) fun _ _ _ _ _ _ us hl => match us, hl with | [_], _ => rfl
  have m12 := PySem.W.mg_of X G a12
  have F13 := fun_mk (st := sMoved) l13 c13 k13
  have b13 := F13.binds (ps := ["_law_hall", "_law_far"]) fun _ _ _ _ _ _ us hl => match us, hl with | [_, _], _ => rfl
  have m13 := PySem.W.mg_of X G a13
  have F14 := fun_mk (st := sFewRight) l14 c14 k14
  have b14 := F14.binds (ps := ["_law_box_here", "_law_size"]) fun _ _ _ _ _ _ us hl => match us, hl with | [_, _], _ => rfl
  have m14 := PySem.W.mg_of X G a14
  have F15 := fun_mk (st := sKnownRight) l15 c15 k15
  have b15 := F15.binds (ps := []) fun _ _ _ _ _ _ us hl => match us, hl with | [], _ => rfl
  have m15 := PySem.W.mg_of X G a15
  have F16 := fun_mk (st := sRight) l16 c16 k16
  have b16 := F16.binds (ps := ["_law_box_here"]) fun _ _ _ _ _ _ us hl => match us, hl with | [_], _ => rfl
  have m16 := PySem.W.mg_of X G a16
  have F17 := fun_mk (st := sLaw) l17 c17 k17
  have b17 := F17.binds (ps := ["_law_script"]) fun _ _ _ _ _ _ us hl => match us, hl with | [_], _ => rfl
  have m17 := PySem.W.mg_of X G a17
  have y_isinstance := PySem.W.mg_none_of X G z1
  have y_int := PySem.W.mg_none_of X G z2
  have y_bool := PySem.W.mg_none_of X G z3
  have y_list := PySem.W.mg_none_of X G z4
  have y_tuple := PySem.W.mg_none_of X G z5
  have y_len := PySem.W.mg_none_of X G z6
  have y_enumerate := PySem.W.mg_none_of X G z7
  have y_abs := PySem.W.mg_none_of X G z8
  have y_zip := PySem.W.mg_none_of X G z9
  have y_all := PySem.W.mg_none_of X G z10
  have y_range := PySem.W.mg_none_of X G z11
  have y_min := PySem.W.mg_none_of X G z12
  have y_max := PySem.W.mg_none_of X G z13
  have y_str := PySem.W.mg_none_of X G z14
  have y_sorted := PySem.W.mg_none_of X G z15
  have B : B0 mg := ⟨y_isinstance, y_int, y_bool, y_list, y_tuple, y_len, y_enumerate, y_abs, y_zip, y_all, y_range, y_min⟩
  refine ⟨PySem.W.fnOf "law" "law" (defArgs sLaw) (defBody sLaw) (defScope sLaw) .none kV17 dc17 pm17 an17 cd17 ct17, fun s v => .of_eq rfl, fun base _ _ => ?_⟩
  have hCell := ok_cell_at (P := l.prog) (w := w) (mg := mg) (base := base) (k := 0) F7 B
  have hBox := ok_box (P := l.prog) (w := w) (mg := mg) (base := base) (k := 1) F8 B hCell b7 k7 m7
  have hTake := ok_take (P := l.prog) (w := w) (mg := mg) (base := base) F9 b9 m9
  have hSame := ok_same (P := l.prog) (w := w) (mg := mg) (base := base) F11 B y_str b11 m11 8
  have hEv := ok_ev (P := l.prog) (w := w) (mg := mg) (base := base) F12 B y_sorted b12 m12 6
  have hOf := ok_of (P := l.prog) (w := w) (mg := mg) (base := base) (k := 1) F10 B hTake b9 k9 m9
  have hTu := ok_turned (P := l.prog) (w := w) (mg := mg) (base := base) (k := 0) F4 B
  have hPe := ok_per (P := l.prog) (w := w) (mg := mg) (base := base) (k := 1) F5 B ⟨hTu.mono (by decide), m4, k4, b4⟩
  have hMo := ok_moved (P := l.prog) (w := w) (mg := mg) (base := base) (k := 0) F13 B
  have hCd := ok_cd (P := l.prog) (w := w) (mg := mg) (base := base) (k := 0) F1
  have hCh := ok_ch (P := l.prog) (w := w) (mg := mg) (base := base) (k := 0) F2 B
  have hCa := ok_ca (P := l.prog) (w := w) (mg := mg) (base := base) (k := 0) F3 B
  have hAm := ok_am (P := l.prog) (w := w) (mg := mg) (base := base) (k := 1) F6 ⟨hCd.mono (by decide), m1, k1, b1⟩ ⟨hCa.mono (by decide), m3, k3, b3⟩ ⟨hCh.mono (by decide), m2, k2, b2⟩
  have hFe := ok_few (P := l.prog) (w := w) (mg := mg) (base := base) (k := 8) F14 B y_max ⟨hEv.mono (by decide), m12, k12, b12⟩ ⟨hMo.mono (by decide), m13, k13, b13⟩ ⟨hTake.mono (by decide), m9, k9, b9⟩ ⟨hOf.mono (by decide), m10, k10, b10⟩ ⟨hSame.mono (by decide), m11, k11, b11⟩ ⟨hPe.mono (by decide), m5, k5, b5⟩ ⟨hAm.mono (by decide), m6, k6, b6⟩ ⟨⟨hAm.mono (by decide), m6, k6, b6⟩, konly2 F6 fun _ _ _ _ _ _ _ _ => rfl⟩
  have hKn := ok_kn (P := l.prog) (w := w) (mg := mg) (base := base) (k := 8) F15 B ⟨hSame.mono (by decide), m11, k11, b11⟩ ⟨hPe.mono (by decide), m5, k5, b5⟩ ⟨hAm.mono (by decide), m6, k6, b6⟩ ⟨hTu.mono (by decide), m4, k4, b4⟩
  have hRight := ok_right (P := l.prog) (w := w) (mg := mg) (base := base) (k := 9) F16 B ⟨hFe.mono (by decide), m14, k14, b14⟩ ⟨hTake.mono (by decide), m9, k9, b9⟩ ⟨hKn.mono (by decide), m15, k15, b15⟩
  exact ok_law (k := 10) F17 B ⟨hBox.mono (by decide), m8, k8, b8⟩ hRight m16 k16 b16
theorem walk {l : PySem.W.OpenLaw} {q : Program} {loose : List Str} {XP : (Str → Option Value) → Heap → Prop} {YP : World → Heap → Prop} {d : DefRec} {K : Params → PySem.W.Frag} (hn : l.most = some 63) (hdf : d.params.defaults = []) (hY : ∀ (w : World) (h : Heap), YP w h → (K w.params).In h)
    (F : ∀ (w : World) (mg : Str → Option Value) (fa : Addr) (h : Heap), (K w.params).In h → h.Ns mainGlobals mg → mg d.name = some (.ref fa) → ∃ fd : FuncData, (∀ (s : Shared) (u : Value), BindsTo s fd ⟨[u], []⟩ [("_law_script", u)]) ∧ ∀ base : Heap, (K w.params).In base → base.Ns mainGlobals mg → FnOk l.prog w (K w.params) mg base CX0 11 fa fd ["_law_script"] (spLaw (K w.params))) :
    PySem.W.WalkO q loose XP YP l.row.toRowW d [] (fun f vs => PySem.call f vs) :=
  walk_of (CX := fun _ => CX0) (n := 63) (k := 11) (x := "_law_script") (sp := fun w => spLaw (K w.params)) hn (by decide) hdf ⟨rfl, by decide, by decide⟩ hY F (fun _ _ a ns hl _ hS => ⟨a, ns, rfl, hS, hl, fun _ => rfl⟩) (fun _ _ _ _ _ z => z)
end K34

open PySem PySem.W PyProof.Rows
set_option Elab.async false
set_option maxRecDepth 100000 in
set_option maxHeartbeats 0 in
theorem PySem.Challenge.cw_handshakes_k34_how_many_are_alike_holds : PySem.Challenge.rw_handshakes_k34_how_many_are_alike.Holds := by
  w_on; o_law; k_head; (case hw => w_witness2)
  k_fill
  refine K34.walk (l := PySem.Challenge.rw_handshakes_k34_how_many_are_alike) rfl rfl (fun w h Y => PySem.W.kIn_of Y) ?F
  case F =>
    intro w mg fa h KX G hmg
    refine' K34.all_mk KX G hmg ?a1 ?l1 ?c1 ?k1 ?a2 ?l2 ?c2 ?k2 ?a3 ?l3 ?c3 ?k3 ?a4 ?l4 ?c4 ?k4 ?a5 ?l5 ?c5 ?k5 ?a6 ?l6 ?c6 ?k6 ?a7 ?l7 ?c7 ?k7 ?a8 ?l8 ?c8 ?k8 ?a9 ?l9 ?c9 ?k9 ?a10 ?l10 ?c10 ?k10 ?a11 ?l11 ?c11 ?k11 ?a12 ?l12 ?c12 ?k12 ?a13 ?l13 ?c13 ?k13 ?a14 ?l14 ?c14 ?k14 ?a15 ?l15 ?c15 ?k15 ?a16 ?l16 ?c16 ?k16 ?a17 ?l17 ?c17 ?k17 ?z1 ?z2 ?z3 ?z4 ?z5 ?z6 ?z7 ?z8 ?z9 ?z10 ?z11 ?z12 ?z13 ?z14 ?z15
    (case a1 => k_is)
    (case l1 => k_is)
    (case c1 => k_is)
    (case k1 => k_is)
    (case a2 => k_is)
    (case l2 => k_is)
    (case c2 => k_is)
    (case k2 => k_is)
    (case a3 => k_is)
    (case l3 => k_is)
    (case c3 => k_is)
    (case k3 => k_is)
    (case a4 => k_is)
    (case l4 => k_is)
    (case c4 => k_is)
    (case k4 => k_is)
    (case a5 => k_is)
    (case l5 => k_is)
    (case c5 => k_is)
    (case k5 => k_is)
    (case a6 => k_is)
    (case l6 => k_is)
    (case c6 => k_is)
    (case k6 => k_is)
    (case a7 => k_is)
    (case l7 => k_is)
    (case c7 => k_is)
    (case k7 => k_is)
    (case a8 => k_is)
    (case l8 => k_is)
    (case c8 => k_is)
    (case k8 => k_is)
    (case a9 => k_is)
    (case l9 => k_is)
    (case c9 => k_is)
    (case k9 => k_is)
    (case a10 => k_is)
    (case l10 => k_is)
    (case c10 => k_is)
    (case k10 => k_is)
    (case a11 => k_is)
    (case l11 => k_is)
    (case c11 => k_is)
    (case k11 => k_is)
    (case a12 => k_is)
    (case l12 => k_is)
    (case c12 => k_is)
    (case k12 => k_is)
    (case a13 => k_is)
    (case l13 => k_is)
    (case c13 => k_is)
    (case k13 => k_is)
    (case a14 => k_is)
    (case l14 => k_is)
    (case c14 => k_is)
    (case k14 => k_is)
    (case a15 => k_is)
    (case l15 => k_is)
    (case c15 => k_is)
    (case k15 => k_is)
    (case a16 => k_is)
    (case l16 => k_is)
    (case c16 => k_is)
    (case k16 => k_is)
    (case a17 => k_is)
    (case l17 => k_is)
    (case c17 => k_is)
    (case k17 => k_is)
    (case z1 => k_is)
    (case z2 => k_is)
    (case z3 => k_is)
    (case z4 => k_is)
    (case z5 => k_is)
    (case z6 => k_is)
    (case z7 => k_is)
    (case z8 => k_is)
    (case z9 => k_is)
    (case z10 => k_is)
    (case z11 => k_is)
    (case z12 => k_is)
    (case z13 => k_is)
    (case z14 => k_is)
    (case z15 => k_is)
#print axioms PySem.Challenge.cw_handshakes_k34_how_many_are_alike_holds

