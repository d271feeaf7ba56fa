import PyProof.Rows.All
import Wide.All
import OpenK.AllK
import Wide.FinOn
import HandS.ForMost
import HandS.IsInst
import HandS.Walk
import HandS.Zip
import HandS.TupAny
import HandS.Style
import HandS.TryOnly
import HandS.More
import KE.GoesEnum
import KE.DatumOrd
import PyProof.Rows.FactsN_isinstance
import PyProof.Rows.SortShell
import PyProof.StrLawsRepr
import HandS.Conv
import PySem.Challenge.RW_handshakes_k01_arrangements_or_not
set_option Elab.async false
set_option linter.all false
set_option maxRecDepth 100000
set_option maxHeartbeats 4000000
/-! A layer of my own over HandS: tuples and data that stand still, enumerate over a tuple. -/
namespace Hs
open PySem PySem.Spec PyProof.Rows L2

/-! ### what stands still -/
theorem same_tup {K : PySem.W.Frag} {H G : Hp} {a : Addr} {xs : List V} (e : Same H G) (h : SqT K H a xs) : SqT K G a xs := by
  rcases h with (h | ⟨o, h⟩) | h
  · exact .inl (.inl (e _ _ h))
  · exact .inl (.inr ⟨o, e _ _ h⟩)
  · exact .inr h
theorem same_new {H : Hp} {p : Addr} {o : HO} (h : H p = none) : Same H (upd H p o) := fun b x q => by
  rw [upd_ne (ne_of_none q h)]; exact q
mutual
theorem same_dp {K : PySem.W.Frag} {H G : Hp} (e : Same H G) : ∀ {d : PyData} {v : V}, Dp K H v d → Dp K G v d
  | .none, _, h => by cases h; exact .non
  | .bool b, _, h => by cases h; exact .bl b
  | .int i, _, h => by cases h; exact .int i
  | .str x, _, h => by cases h; exact .str x
  | .list ds, _, h => by cases h with | lst q r => exact .lst (e.seq q) (same_dps e r)
  | .tuple ds, _, h => by cases h with | tup q r => exact .tup (same_tup e q) (same_dps e r)
  | .dict _, _, h => by cases h
theorem same_dps {K : PySem.W.Frag} {H G : Hp} (e : Same H G) : ∀ {ds : List PyData} {vs : List V}, DpAll K H vs ds → DpAll K G vs ds
  | [], _, h => by cases h; exact .nil
  | _ :: _, _, h => by cases h with | cons q r => exact .cons (same_dp e q) (same_dps e r)
end

/-! ### enumerate(v), v begun by any iterator -/
set_option maxHeartbeats 1000000 in
theorem meets_en1 {v : Value} {o : Obj} {G : Heap → Prop} (B : Begins v o G) :
    Meets (Builtin.«enumerate.__new__» ⟨[.type "enumerate", v], []⟩) (fun _ R s => G s.heap ∧
      R (.ok (.ret (.ref (s.heap.push o).objs.size))) { s with heap := (s.heap.push o).push { cls := .type "enumerate", data := .fields #[.none, .bool false, .ref s.heap.objs.size, rawInt 0, .none, .none] } }) :=
  .of_wp fun prog w A R s h => by
    obtain ⟨hp, g, d, tk, os⟩ := s
    obtain ⟨hG, hR⟩ := h
    have hsub := sub_enumerate
    have goes : ∀ {A' : Around} {E : Value → Shared → Prop} {Q : Value → Shared → Prop}, Q (.ref hp.objs.size) ⟨hp.push o, g, d, tk, os⟩ → wpAny (model prog w) A' (pyIter v) Q E ⟨hp, g, d, tk, os⟩ := fun q => B.iter prog w _ _ ⟨hp, g, d, tk, os⟩ _ hG q
    wp_walk using goes
    refine wpAny_stack_any fun st => wpAny_pure ?_
    split
    · rename_i c _ _ _ _ _
      cases (c == Value.type "enumerate")
      all_goals (wp_walk using goes; exact ⟨_, rfl, hR⟩)
    · wp_walk using goes; exact ⟨_, rfl, hR⟩
section
variable {prog : Program} {w : World} {A : Around} {E : Value → Shared → Prop} {s : Shared}
theorem en1_begins {v : Value} {o : Obj} {G : Heap → Prop} {Q : Value → Shared → Prop} (B : Begins v o G) (hG : G s.heap)
    (h : ∀ k, IsEnum k (s.heap.objs.size + 1) s.heap.objs.size 0 .none → k.get? s.heap.objs.size = some o → (∀ b u, s.heap.get? b = some u → k.get? b = some u) → Q (.ref (s.heap.objs.size + 1)) { s with heap := k }) :
    wpAny (model prog w) A (call (.type "enumerate") [v]) Q E s := by
  refine callType_new F.called_enumerate (by decide) (F.typeCall_enumerate_1 _) (F.newCall_enumerate_1 _) (fun obj => F.args_object_init_2 obj _) F.entry_enumerate_new (meets_en1 B) ⟨hG, ?_⟩
  have sz : (s.heap.push o).objs.size = s.heap.objs.size + 1 := Heap.size_push ..
  show _ ∧ _
  rw [sz]
  have isE : IsEnum ((s.heap.push o).push { cls := .type "enumerate", data := .fields #[.none, .bool false, .ref s.heap.objs.size, rawInt 0, .none, .none] }) (s.heap.objs.size + 1) s.heap.objs.size 0 .none := by
    have q := Heap.get?_push_size (s.heap.push o) (o := { cls := .type "enumerate", data := .fields #[.none, .bool false, .ref s.heap.objs.size, rawInt 0, .none, .none] }) rfl
    rw [sz] at q; exact q
  exact ⟨⟨_, isE, rfl⟩, h _ isE (Heap.get?_push_of_some _ (Heap.get?_push_size _ B.free)) fun b u x => Heap.get?_push_of_some _ (Heap.get?_push_of_some _ x)⟩
end

/-! ### for i, x in enumerate(tuple) -/
/-- the tuple at a, each item in a new pair -/
def Iet (K : PySem.W.Frag) (a : Addr) : It where
  go := fun i H => ∃ (xs : List V) (x : V), SqT K H a xs ∧ xs[i]? = some x
  yld := fun i H v G => ∃ T x, v = .ref T ∧ H T = none ∧ G = upd H T (.tup [.int (i : Nat), x]) ∧ ∀ xs, SqT K H a xs → xs[i]? = some x
  stop := fun i H => ∃ xs : List V, SqT K H a xs ∧ xs.length ≤ i
theorem turn_en {P : Program} {w : World} {K : PySem.W.Frag} {elts : List Expr} {kk : Nat} {tpos : Pos} (a e it : Addr) (hai : a ≠ it) (hae : a ≠ e) :
    Turn P w K (.Tuple elts kk tpos) (Iet K a) [e, it] e (fun i h => (∃ old, IsEnum h e it ((i : Nat) : Int) old) ∧ h.IsTupleIter it a i ∧ e ≠ it) where
  mem := by simp
  obj := fun i h st b hb => by
    obtain ⟨⟨old, he⟩, ⟨o, ho, hc, hd⟩, _⟩ := st
    rcases (show b = e ∨ b = it by simpa using hb) with rfl | rfl
    · exact ⟨_, he, fun v q => nomatch q⟩
    · exact ⟨o, ho, fun v q => by rw [hd] at q; cases q⟩
  keep := fun i h h' st k => by
    obtain ⟨⟨old, he⟩, hi, ne⟩ := st
    exact ⟨⟨old, k e (by simp) _ he⟩, hi.at fun o q => k it (by simp) o q, ne⟩
  item := by
    intro X hP hw hK hc i pins s σ H E I hf st hg
    subst hP hw hK
    obtain ⟨⟨old, he⟩, hit, hne⟩ := st
    obtain ⟨xs, x, hq, hx⟩ := hg
    obtain ⟨its, rv, p, hz⟩ := I.tuple hq
    obtain ⟨u, hu, ru⟩ := rv.get hx
    have ltE : e < s.heap.objs.size := Heap.lt_size he
    have ltI : it < s.heap.objs.size := by obtain ⟨_, q, _⟩ := hit; exact Heap.lt_size q
    have D := Draws.tuple (prog := X.prog) (w := X.w) (A := X.A.in1) (I.ok.hd hc) it a hai its.toArray
    have nf : e ∉ [it, a] := by
      intro z
      rcases (show e = it ∨ e = a by simpa using z) with z | z
      · exact hne z
      · exact hae z.symm
    refine wpAny_pyNext_enum_itemD D he ⟨hit, p⟩ (by simpa using (List.getElem?_eq_some_iff.mp hu).1) hne nf fun y h' tk hy ho hst hT hsz hk => ?_
    have ey : y = u := by
      have z : its.toArray[i]? = some y := hy
      have z2 : its.toArray[i]? = some u := by simpa using hu
      exact Option.some.inj (z.symm.trans z2)
    subst ey
    refine ⟨_, rfl, wpAny_letOwnedTupleGo_enum (s := { s with heap := h', toks := tk + 1 }) ho fun h'' he' sb => ?_⟩
    have hT2 : h''.get? s.heap.objs.size = some { cls := .type "tuple", data := .seq #[.int i tk, y] } := (sb.2 _ (Nat.ne_of_gt ltE)).trans hT
    have new : ObjOk X.prog X.w (upd H s.heap.objs.size (.tup [.int (i : Nat), x])) h'' s.heap.objs.size (.tup [.int (i : Nat), x]) :=
      ⟨by show 2 ≤ sizeLine; decide, [.int i tk, y], .cons ⟨_, rfl⟩ (.cons ru .nil), ⟨_, hT2, rfl, _, rfl⟩⟩
    have J : Inv X pins σ (upd H s.heap.objs.size (.tup [.int (i : Nat), x])) { s with heap := h'', toks := tk + 1 } := by
      refine I.turnedNew (ch := [e, it]) (fun b ob hb q => ?_) hf (Nat.le_refl _) new
      have h1 : b ≠ e := fun z => hb (by simp [z])
      have h2 : b ≠ it := fun z => hb (by simp [z])
      exact (sb.2 b h1).trans (hk b ob h1 h2 q)
    refine ⟨.ref s.heap.objs.size, _, J, rfl, ⟨_, x, rfl, I.hok.fresh (Nat.le_refl _), rfl, fun ys hy => by rw [I.tuple_inj hy hq]; exact hx⟩, ⟨⟨y, ?_⟩, hst.1.at fun o q => (sb.2 it (Ne.symm hne)).trans q, hne⟩, fun b hb => ?_⟩
    · have e1 : ((i + 1 : Nat) : Int) = (i : Int) + 1 := by omega
      rw [e1]; exact he'
    · have lt : b < s.heap.objs.size := by
        rcases (show b = e ∨ b = it by simpa using hb) with rfl | rfl
        · exact ltE
        · exact ltI
      rw [upd_ne (Nat.ne_of_lt lt)]
      exact (hf b hb).1
  done := by
    intro X hP hw hK hc i pins s σ H E I hf st hg
    subst hP hw hK
    obtain ⟨⟨old, he⟩, hit, hne⟩ := st
    obtain ⟨xs, hq, hx⟩ := hg
    obtain ⟨its, rv, p, hz⟩ := I.tuple hq
    obtain ⟨f0, f1, f2, f3, f4, f5⟩ := hf it (by simp)
    have hT : s.TypeIs (.ref e) "enumerate" := ⟨_, he, rfl⟩
    have hl := rv.length
    unfold pyNext
    refine wpAny_bind (wpAny_attempt (wpAny_callSpecial?_slot (name := Str.ofString "__next__") hT F.slot_enumerate_next (wpAny_call_entry F.slot_enumerate_next hT F.entry_enumerate_next ?_ (F.args_enumerate_next_1 _))))
    show wpAny _ _ (field (.ref e) 2 >>= _) _ _ _
    refine wpAny_bind (wpAny_field he rfl (x := .ref it) rfl ?_)
    refine wpAny_bind (wpAny_nextOf_tuple_end (I.ok.hd hc) hit p (by simp; omega) fun h' x eb hx' => ?_)
    obtain ⟨o, ho, hco⟩ := hx'
    refine wpAny_bind (wpAny_isInstance (T := "StopIteration") (b := true) ⟨o, ho, hco⟩ isSubtype_stop ?_)
    exact wpAny_pure ⟨rfl, I.turned (t' := s.toks) (fun b ob hb q => eb b ob hb q) f0 f1 f3 f4 f5⟩
  self := fun A i s Q E st h => by
    obtain ⟨⟨_, he⟩, _⟩ := st
    exact wpAny_pyIter_enum he h
def iEnT (K : PySem.W.Frag) (ta : TA) : TI := fun σ H R => ta σ H fun vs G => ∃ a xs, vs = [.ref a] ∧ SqT K G a xs ∧ R (Iet K a) G
theorem pi_enT {X : Cx} {e : Expr} {ta : TA} {p pos tpos : Pos} {elts : List Expr} {kk : Nat} (hg : Gl X "enumerate") (hm : X.mg "enumerate" = none) (ha : PA X [e] ta) (hs : starEach [e] X.env = [(false, eval e X.env)] := by rfl) :
    PI X (.Tuple elts kk tpos) (.Call (.Name "enumerate" p) [e] [] pos) (iEnT X.K ta) := by
  refine ⟨fun pins s σ H R I h => ?_⟩
  refine Call_ (ld_blt I hg hm boot_enumerate (PyProof.Rows.callWith_type1 (thn (ha.run pos pins s σ H _ I h) fun us s1 hh => ?_) hs rfl))
  obtain ⟨vs, G, J, r1, a, xs, ex, hq, q⟩ := hh
  subst ex
  cases r1 with
  | cons r rr =>
    cases rr
    cases r
    obtain ⟨its, rv, p', hz⟩ := J.tuple hq
    have al : a < s1.heap.objs.size := p'.lt
    refine en1_begins (begins_tuple a its.toArray) p' fun k hk hi hkeep => wpAny_pyIter_enum hk ?_
    have J2 : Inv X pins σ G { s1 with heap := k } := J.kept (t' := s1.toks) hkeep
    refine ⟨s1.heap.objs.size + 1, [s1.heap.objs.size + 1, s1.heap.objs.size], _, _, G, rfl, J2, turn_en a _ _ (Nat.ne_of_lt al) (Nat.ne_of_lt (Nat.lt_succ_of_lt al)), ⟨⟨.none, hk⟩, ⟨_, hi, rfl, rfl⟩, Nat.succ_ne_self _⟩, fun b hb => ?_, q⟩
    have le : s1.heap.objs.size ≤ b := by
      rcases (show b = s1.heap.objs.size + 1 ∨ b = s1.heap.objs.size by simpa using hb) with z | z
      · rw [z]; exact Nat.le_succ _
      · rw [z]; exact Nat.le_refl _
    exact J.fpOk le (J.hok.fresh le)
theorem walk_enT {K : PySem.W.Frag} {a : Addr} {xs : List V} : Walk (Iet K a) xs.length (fun H => SqT K H a xs) (YPair (fun i => some (.int (i : Nat))) fun i => xs[i]?) := by
  refine ⟨fun i H hi q => ⟨xs, xs[i], q, by simp [hi]⟩, fun H q => ⟨xs, q, Nat.le_refl _⟩, fun i H v G _ q y => ?_⟩
  obtain ⟨T, x, e1, e2, e3, f⟩ := y
  exact ⟨T, _, x, e1, e2, e3, rfl, f _ q⟩
end Hs

set_option Elab.async false
set_option linter.all false
set_option maxRecDepth 100000
set_option maxHeartbeats 4000000
/-! Defs that are run while no repr is under way: FnG, as FnOk but for the guards. -/
namespace Hs
open PySem PySem.Spec PyProof.Rows L2
structure FnG (P : Program) (w : World) (K : PySem.W.Frag) (mg : Str → Option Value) (base : Heap) (CX : CXT) (k : Nat) (f : Addr) (fd : FuncData) (ps : List Str) (sp : Sp) : Prop where
  len : ∀ xs G R T, sp xs G R T → xs.length = ps.length
  run : ∀ (B : Around) (out : List Env) (t : Shared) (G : Hp) (args : Args) (us : List Value) (xs : List V) (R : VK) (T : XK), B.guards = some [] → Room k B → Env0 P w K mg base B out t G → BindsTo t fd args (ps.zip us) → Vals xs us → sp xs G R T →
    codeAny (model P w) B (.call (.ref f) args) (CR CX out P w G t R T) t
section
variable {P : Program} {w : World} {K : PySem.W.Frag} {mg : Str → Option Value} {base : Heap} {CX : CXT}
theorem fng_of {k : Nat} {f : Addr} {name qual : Str} {params : Arguments} {body : List Stmt} {scope : Scope} {dV kV doc pm cdv ct oc : Value} {an od : Option Addr} {osl : Array (Option Value)} {N ps : List Str} {sp : Sp}
    (lk : K.lookup f = some ⟨oc, od, .func (PySem.W.fnOf name qual params body scope dV kV doc pm an cdv ct), osl⟩) (code : PySem.W.codeIn K cdv qual = true) (S : FnScope N ps scope) (len : ∀ xs G R T, sp xs G R T → xs.length = ps.length)
    (hb : ∀ (B : Around) (out : List Env) (t : Shared) (G : Hp) (xs : List V) (R : VK) (T : XK), B.guards = some [] → Room k (B.deeper (envOfC qual scope t.heap.objs.size f cdv)) → sp xs G R T →
      ∃ r, PSs (cxOf CX P w K mg base N qual scope f cdv B out t G T) body r ∧ r { nx := fun _ G' => R .non G', rt := R } (start N xs) G) :
    FnG P w K mg base CX (k + 1) f (PySem.W.fnOf name qual params body scope dV kV doc pm an cdv ct) ps sp := by
  refine ⟨len, fun B out t G args us xs R T hg room e0 bind rel hsp => ?_⟩
  have KX : K.In t.heap := e0.mod.kin.keeps fun b o q => (e0.bs b o q).1
  have lim : t.heap.NoLimit := e0.mod.nolimit.keeps fun b o q => (e0.bs b o q).1
  have kinds : ∀ y ∈ ps.zip us, scope.names.lookup y.1 = some .local ∨ (scope.names.lookup y.1 = some .cell ∧ ((cellsFrom (t.heap.objs.size + 1) scope.names []).lookup y.1).isSome = true) := by
    rintro ⟨n, v⟩ hy
    rcases S.par n (List.of_mem_zip hy).1 with q | q
    · exact .inl q
    · exact .inr ⟨q, PySem.W.cellsFrom_some _ _ _ (.inl q)⟩
  refine codeAny_call_function room.depth (KX _ _ lk) rfl S.co S.gen rfl (PySem.W.codeRec_of KX code) (bind _ _ _ _ (wpAny_newFunctionEnv_cells S.kind kinds fun env he s1 x => ?_))
  subst he
  refine ⟨lim.keeps x.toInCall.keep, codeAny_func ?_⟩
  obtain ⟨r, hr, hq⟩ := hb B out t G xs R T hg (room.deeper _) hsp
  have I : Inv (cxOf CX P w K mg base N qual scope f cdv B out t G T) [] (start N xs) G s1 := inv_start S room.hd e0 (len _ _ _ _ hsp) rel x
  refine wpAny_mono (hr.run [] s1 (start N xs) G _ I hq) (fun fl s' z => ?_) fun _ _ z => z
  cases fl with
  | ret u => obtain ⟨v, σ', G', J, rv, q⟩ := z; exact ⟨v, G', J.os, J.bare, J.base, J.hok, rv, q⟩
  | next => obtain ⟨σ', G', J, q⟩ := z; exact ⟨V.non, G', J.os, J.bare, J.base, J.hok, rfl, q⟩
  | brk => obtain ⟨_, _, _, q⟩ := z; exact q.elim
  | cont => obtain ⟨_, _, _, q⟩ := z; exact q.elim
theorem fun_okG {x qual : Str} {st : Stmt} {f : Addr} {fd : FuncData} {N ps : List Str} {k : Nat} {sp : Sp} (F : Fun K x qual st f fd) (S : FnScope N ps (defScope st)) (len : ∀ xs G R T, sp xs G R T → xs.length = ps.length)
    (hb : ∀ (cdv : Value) (B : Around) (out : List Env) (t : Shared) (G : Hp) (xs : List V) (R : VK) (T : XK), B.guards = some [] → Room k (B.deeper (envOfC qual (defScope st) t.heap.objs.size f cdv)) → sp xs G R T →
      ∃ r, PSs (cxOf CX0 P w K mg base N qual (defScope st) f cdv B out t G T).nox (defBody st) r ∧ r { nx := fun _ G' => R .non G', rt := R } (start N xs) G) : FnG P w K mg base CX0 (k + 1) f fd ps sp := by
  obtain ⟨oc, od, kV, doc, pm, an, cdv, ct, osl, rfl, lk, hcd⟩ := F.ex
  refine fng_of lk hcd S len fun B out t G xs R T hg hr hsp => ?_
  obtain ⟨r, h, q⟩ := hb cdv B out t G xs R T hg hr hsp
  exact ⟨r, h.nox, q⟩
end
section
variable {X : Cx} {CX : CXT} {k : Nat} {f : Addr} {fd : FuncData} {ps : List Str} {sp : Sp} {E : XK} {x : Str} {p pos : Pos} {e : Expr} {es : List Expr} {t : TA}
theorem pe_callG (F : FnG X.prog X.w X.K X.mg X.base CX k f fd ps sp) (gd : X.A.guards = some []) (room : Room k X.A) (hg : Gl X x) (hm : X.mg x = some (.ref f)) (hk : PySem.W.keepIn X.K (.ref f) = true) (hb : Binds X.K fd ps []) (hx : Passes CX X E) (ha : PA X (e :: es) t)
    (hdb : (x == ("__debug__" : Str)) = false := by decide) (he : starEach (e :: es) X.env = (false, eval e X.env) :: starEach es X.env := by rfl) (hpl : (backTo pos (starEach es X.env)).any (·.1) = false := by rfl) :
    PE X (.Call (.Name x p) (e :: es) [] pos) (tCall sp [] E t) := by
  refine ⟨fun pins s σ H Q I h => ?_⟩
  refine wpAny_Call_Name_kw (ld_glob I hg hm ?_ hdb)
  refine PySem.W.callWith_K (h₀ := X.base) I.ok.mod.kin hk (thn (ha.run pos pins s σ H _ I h) fun us s1 z => ?_) he hpl
  obtain ⟨vs, G, J, rel, q⟩ := z
  refine ⟨J.kIn, ?_⟩
  have r2 : Vals (vs ++ []) (us ++ []) := rel.append .nil
  have hl : (us ++ []).length = ps.length := by rw [← r2.length]; exact F.len _ _ _ _ q
  refine wpAny_call (codeAny_mono (F.run X.A X.stack s1 G ⟨us, []⟩ (us ++ []) (vs ++ []) Q E gd room J.env0 (hb s1 us J.kIn hl) r2 q) fun r s' hq => ?_)
  cases r with
  | error er => exact hx pins σ G s1 er s' J hq
  | ok fl =>
    cases fl with
    | ret u => exact J.after hq
    | next => exact False.elim hq
    | brk => exact False.elim hq
    | cont => exact False.elim hq
end

/-! ### the law's call -/
theorem law_callG {P : Program} {w : World} {K : PySem.W.Frag} {mg mb : Str → Option Value} {k : Nat} {fa a : Addr} {fd : FuncData} {x : Str} {sp : Sp} {t : Shared} {vs : List Value} {ns : List Int}
    (KX : K.In t.heap) (hns : t.heap.Ns mainGlobals mg) (hb : t.heap.Ns builtinsNs mb) (hbb : ∀ y : Str, y ≠ "__name__" → mb y = bootBuiltins y) (hlim : t.heap.NoLimit) (hgen : t.gens = #[])
    (ha : t.heap.get? a = some { cls := .type "list", data := .seq vs.toArray }) (hi : IntsAre vs ns) (hl : ns.length ≤ sizeLine) (room : Room k callerA)
    (F : ∀ base : Heap, K.In base → base.Ns mainGlobals mg → FnG P w K mg base CX0 k fa fd [x] sp) (hbind : ∀ (s : Shared) (u : Value), BindsTo s fd ⟨[u], []⟩ [(x, u)])
    (hsp : ∀ H : Hp, Only H → SqL K H a (ns.map V.int) → sp [.ref a] H (fun v _ => v = .bl true) fun _ _ _ => False) :
    codeAny (model P w) callerA (.call (.ref fa) ⟨[.ref a], []⟩) (fun r s' => r = .ok (.ret (.bool true)) ∧ OldK t.heap s'.heap ∧ s'.os = t.os ∧ AllBare s'.gens) t := by
  have rv := vals_ints hi
  have lenV := hi.length
  have core : ∀ H : Hp, Only H → SqL K H a (ns.map V.int) → HOk P w H t.heap → (∀ b, H b ≠ none → b = a) → (H a ≠ none → K.lookup a = none) →
      codeAny (model P w) callerA (.call (.ref fa) ⟨[.ref a], []⟩) (fun r s' => r = .ok (.ret (.bool true)) ∧ OldK t.heap s'.heap ∧ s'.os = t.os ∧ AllBare s'.gens) t := by
    intro H only sq hok atA noK
    have keepB : ∀ {b : Addr} {o : Obj}, t.heap.get? b = some o → H b = none → (hidT t.heap H).get? b = some o := fun q n => hidT_get q n
    have dictN : ∀ {b : Addr} {o : Obj} {es : Array DictEntry} {ep : Nat}, t.heap.get? b = some o → o.data = .dict es ep → H b = none := by
      intro b o es ep q d
      cases z : H b with
      | none => rfl
      | some u =>
        have e := atA b (by rw [z]; simp)
        subst e
        rw [ha] at q; cases q
        exact nomatch (show Data.seq vs.toArray _ = Data.dict es ep from d)
    have nsK : ∀ {b : Addr} {m : Str → Option Value}, t.heap.Ns b m → (hidT t.heap H).Ns b m := by
      rintro b m ⟨o, es, ep, q, d, r⟩
      exact ⟨o, es, ep, keepB q (dictN q d), d, r⟩
    have inB : K.In (hidT t.heap H) := by
      intro b o q
      refine keepB (KX b o q) ?_
      cases z : H b with
      | none => rfl
      | some u =>
        have e := atA b (by rw [z]; simp)
        subst e
        rw [noK (by rw [z]; simp)] at q; cases q
    have hM : Mod K mg (hidT t.heap H) := by
      obtain ⟨mc, h1, h2⟩ := hlim
      exact ⟨inB, nsK hns, ⟨mb, nsK hb, hbb⟩, ⟨mc, nsK h1, h2⟩⟩
    have e0 : Env0 P w K mg (hidT t.heap H) callerA [] t H := by
      refine ⟨rfl, hM, fun b o q => of_hidT q, Nat.le_of_eq (hidT_size _ _), trivial, fun b z => ?_, hok, .of_eq hgen⟩
      exact absurd (show b ∈ ([] : List Addr) from z) (by simp)
    refine codeAny_mono ((F _ inB (nsK hns)).run callerA [] t H ⟨[.ref a], []⟩ [.ref a] [.ref a] _ _ rfl room e0 (hbind t (.ref a)) (.cons rfl .nil) (hsp H only sq)) fun r s' z => ?_
    cases r with
    | error er => exact False.elim z
    | ok fl =>
      cases fl with
      | next => exact False.elim z
      | brk => exact False.elim z
      | cont => exact False.elim z
      | ret u =>
        obtain ⟨v, G, os, bare, un, hokG, rel, q⟩ := z
        have q' : v = .bl true := q
        subst q'
        obtain rfl : u = Value.bool true := rel
        refine ⟨rfl, OldK.of_keep fun b o e => ?_, os, bare⟩
        cases zb : H b with
        | none => exact un.keep b o e zb (fun y => absurd (show b ∈ ([] : List Addr) from y) (by simp)) (by simp)
        | some y =>
          rcases only b with n | ⟨ob, ys, n⟩
          · rw [zb] at n; cases n
          · obtain ⟨e1, _⟩ := hok b _ n
            obtain ⟨e2, _⟩ := hokG b _ (un.frzs b ob _ n)
            rw [e] at e1; cases e1
            exact e2
  cases hk : K.lookup a with
  | some o =>
    have q := KX a o hk
    rw [ha] at q
    cases q
    refine core (fun _ => none) (fun _ => .inl rfl) (.inr ⟨_, vs.toArray, _, hk, rfl, rfl, rfl, ?_, by simpa using rv⟩) (fun b u z => nomatch (show (none : Option HO) = some u from z)) (fun b z => absurd rfl z) fun z => absurd rfl z
    rw [List.size_toArray, lenV]; exact hl
  | none =>
    refine core (fun b => if b = a then some (.frz { cls := .type "list", data := .seq vs.toArray } (.lst (ns.map V.int))) else none) (fun b => ?_) (.inl (.inr ⟨_, if_pos rfl⟩)) (fun b u z => ?_) (fun b z => ?_) fun _ => hk
    · by_cases e : b = a
      · exact .inr ⟨_, _, if_pos e⟩
      · exact .inl (if_neg e)
    · by_cases e : b = a
      · have y := (if_pos e).symm.trans z
        cases y
        subst e
        exact ⟨ha, by rw [List.length_map]; exact hl, vs, _, rv, ha⟩
      · exact nomatch (show none = some u from (if_neg e).symm.trans z)
    · by_cases e : b = a
      · exact e
      · exact absurd (if_neg e) z
theorem walk_ofG {l : PySem.W.OpenLaw} {n k : Nat} {q : Program} {loose : List Str} {XP : (Str → Option Value) → Heap → Prop} {YP : World → Heap → Prop} {d : DefRec} {K : Params → PySem.W.Frag} {sp : World → Sp} {x : Str}
    (hn : l.most = some n) (hn2 : n ≤ sizeLine) (hdf : d.params.defaults = []) (room : Room k callerA) (hY : ∀ (w : World) (h : Heap), YP w h → (K w.params).In h)
    (F : ∀ (w : World) (mg : Str → Option Value) (fa : Addr) (h : Heap), (K w.params).In h → h.Ns mainGlobals mg → mg d.name = some (.ref fa) →
      ∃ fd : FuncData, (∀ (s : Shared) (u : Value), BindsTo s fd ⟨[u], []⟩ [(x, u)]) ∧ ∀ base : Heap, (K w.params).In base → base.Ns mainGlobals mg → FnG l.prog w (K w.params) mg base CX0 k fa fd [x] (sp w))
    (hsp : ∀ (w : World) (H : Hp) (a : Addr) (ns : List Int), ns.length ≤ n → Only H → SqL (K w.params) H a (ns.map V.int) → sp w [.ref a] H (fun v _ => v = .bl true) fun _ _ _ => False) :
    PySem.W.WalkO q loose XP YP l.row.toRowW d [] (fun f vs => PySem.call f vs) := by
  refine Att.attach_call hn hdf fun w s₀ s₁ mg mb fa o pm cd doc a vs ns G Y ho hd hcd hmg hobj hints hlen hg => ?_
  have KX := hY w _ Y
  obtain ⟨fd, bnd, hF⟩ := F w mg fa _ KX G.T.g hmg
  exact law_callG KX G.T.g G.T.b G.T.builtins G.T.nolimit hg hobj hints (Nat.le_trans hlen hn2) room hF bnd fun H hO hS => hsp w H a ns hlen hO hS

/-! ### repr of data -/
theorem call_reprD {X : Cx} (gd : X.A.guards = some []) (hu : X.A.units + 64 < cLine) : CallR X (.builtin "repr") (fun xs H Q => ∃ v d, xs = [v] ∧ Dp X.K H v d ∧ d.showable = true ∧ d.hasDict = false ∧ d.depth < 60 ∧ d.shown.length ≤ sizeLine ∧ Q (.str d.shown) H) := by
  intro pins s σ H xs us Q I r h
  obtain ⟨v, d, rfl, hd, sh, nd, dp, sz, q⟩ := h
  obtain ⟨u, rfl, ru⟩ := vals1 r
  cases hd with
  | non => cases ru; exact PySem.P.repr_of_none ⟨.str _, H, I.tok _, ⟨_, rfl⟩, q⟩
  | bl b => cases ru; exact PySem.P.repr_of_bool ⟨.str _, H, I.tok _, ⟨_, rfl⟩, q⟩
  | int i => obtain ⟨t, rfl⟩ := ru; exact PySem.P.repr_of_int (of_decide_eq_true sh) ⟨.str _, H, I.tok _, ⟨_, rfl⟩, q⟩
  | str x => obtain ⟨t, rfl⟩ := ru; exact PySem.P.repr_of_str ⟨.str _, H, I.tok _, ⟨_, rfl⟩, q⟩ sz
  | lst hs ha =>
    cases ru
    obtain ⟨as, rr⟩ := Dp.reads I _ _ _ (Dp.lst hs ha) rfl
    exact repr_of_reads' rr sh (fun z => by rw [nd] at z; cases z) gd (by omega) (fun _ _ e => e) (fun h' u tk hk => ⟨.str _, H, I.kept (t' := tk) hk, ⟨_, rfl⟩, q⟩) sz
  | tup hs ha =>
    cases ru
    obtain ⟨as, rr⟩ := Dp.reads I _ _ _ (Dp.tup hs ha) rfl
    exact repr_of_reads' rr sh (fun z => by rw [nd] at z; cases z) gd (by omega) (fun _ _ e => e) (fun h' u tk hk => ⟨.str _, H, I.kept (t' := tk) hk, ⟨_, rfl⟩, q⟩) sz
end Hs

set_option Elab.async false
set_option linter.all false
set_option maxRecDepth 100000
set_option maxHeartbeats 4000000
/-! Data: kinds, isinstance; the names of built-ins that a text leaves alone. -/
namespace Hs
open PySem PySem.Spec PyProof.Rows L2
/-- the built-in class of data -/
def tyD : PyData → String
  | .none => "NoneType" | .bool _ => "bool" | .int _ => "int" | .str _ => "str" | .list _ => "list" | .tuple _ => "tuple" | .dict _ => "dict"
theorem dp_ty {K : PySem.W.Frag} {H : Hp} {v : V} {d : PyData} (h : Dp K H v d) : TyX K H v (.type (tyD d)) := by
  cases h with
  | non => exact .base .non
  | bl b => exact .base (.bl b)
  | int i => exact .base (.int i)
  | str x => exact .base (.str x)
  | lst q _ =>
    rcases q with (q | ⟨o, q⟩) | ⟨o, its, n, q, c, _⟩
    · exact .base (.lst q)
    · exact .base (.frz q)
    · exact .kList q c
  | tup q _ =>
    rcases q with (q | ⟨o, q⟩) | ⟨o, its, n, q, c, _⟩
    · exact .base (.tup q)
    · exact .fTuple q
    · exact .kTuple q c
def isI : PyData → Bool | .int _ => true | .bool _ => true | _ => false
def isB : PyData → Bool | .bool _ => true | _ => false
def isL : PyData → Bool | .list _ => true | _ => false
def isT : PyData → Bool | .tuple _ => true | _ => false
def isS : PyData → Bool | .str _ => true | _ => false
/-- a number: an int that is no bool -/
def isN : PyData → Bool | .int _ => true | _ => false
theorem kit_int (d : PyData) : kitB (tyD d) "int" = some (isI d) := by
  cases d with
  | none => exact (by decide +kernel : kitB "NoneType" "int" = some false)
  | bool _ => exact (by decide +kernel : kitB "bool" "int" = some true)
  | int _ => exact (by decide +kernel : kitB "int" "int" = some true)
  | str _ => exact (by decide +kernel : kitB "str" "int" = some false)
  | list _ => exact (by decide +kernel : kitB "list" "int" = some false)
  | tuple _ => exact (by decide +kernel : kitB "tuple" "int" = some false)
  | dict _ => exact (by decide +kernel : kitB "dict" "int" = some false)
theorem kit_bool (d : PyData) : kitB (tyD d) "bool" = some (isB d) := by
  cases d with
  | none => exact (by decide +kernel : kitB "NoneType" "bool" = some false)
  | bool _ => exact (by decide +kernel : kitB "bool" "bool" = some true)
  | int _ => exact (by decide +kernel : kitB "int" "bool" = some false)
  | str _ => exact (by decide +kernel : kitB "str" "bool" = some false)
  | list _ => exact (by decide +kernel : kitB "list" "bool" = some false)
  | tuple _ => exact (by decide +kernel : kitB "tuple" "bool" = some false)
  | dict _ => exact (by decide +kernel : kitB "dict" "bool" = some false)
theorem kit_list (d : PyData) : kitB (tyD d) "list" = some (isL d) := by
  cases d with
  | none => exact (by decide +kernel : kitB "NoneType" "list" = some false)
  | bool _ => exact (by decide +kernel : kitB "bool" "list" = some false)
  | int _ => exact (by decide +kernel : kitB "int" "list" = some false)
  | str _ => exact (by decide +kernel : kitB "str" "list" = some false)
  | list _ => exact (by decide +kernel : kitB "list" "list" = some true)
  | tuple _ => exact (by decide +kernel : kitB "tuple" "list" = some false)
  | dict _ => exact (by decide +kernel : kitB "dict" "list" = some false)
theorem kit_tuple (d : PyData) : kitB (tyD d) "tuple" = some (isT d) := by
  cases d with
  | none => exact (by decide +kernel : kitB "NoneType" "tuple" = some false)
  | bool _ => exact (by decide +kernel : kitB "bool" "tuple" = some false)
  | int _ => exact (by decide +kernel : kitB "int" "tuple" = some false)
  | str _ => exact (by decide +kernel : kitB "str" "tuple" = some false)
  | list _ => exact (by decide +kernel : kitB "list" "tuple" = some false)
  | tuple _ => exact (by decide +kernel : kitB "tuple" "tuple" = some true)
  | dict _ => exact (by decide +kernel : kitB "dict" "tuple" = some false)
theorem kit_str (d : PyData) : kitB (tyD d) "str" = some (isS d) := by
  cases d with
  | none => exact (by decide +kernel : kitB "NoneType" "str" = some false)
  | bool _ => exact (by decide +kernel : kitB "bool" "str" = some false)
  | int _ => exact (by decide +kernel : kitB "int" "str" = some false)
  | str _ => exact (by decide +kernel : kitB "str" "str" = some true)
  | list _ => exact (by decide +kernel : kitB "list" "str" = some false)
  | tuple _ => exact (by decide +kernel : kitB "tuple" "str" = some false)
  | dict _ => exact (by decide +kernel : kitB "dict" "str" = some false)
theorem isi_of {K : PySem.W.Frag} {H : Hp} {v : V} {d : PyData} {T : String} {f : PyData → Bool} {Q : VK} (kt : ∀ d, kitB (tyD d) T = some (f d)) (h : Dp K H v d) (q : Q (.bl (f d)) H) : rIsi K [v, .ty T] H Q :=
  ⟨v, .ty T, _, _, _, rfl, .ty T, dp_ty h, kit_ty (kt d), q⟩
theorem isi_int {K : PySem.W.Frag} {H : Hp} {v : V} {d : PyData} {Q : VK} (h : Dp K H v d) (q : Q (.bl (isI d)) H) : rIsi K [v, .ty "int"] H Q := isi_of kit_int h q
theorem isi_bool {K : PySem.W.Frag} {H : Hp} {v : V} {d : PyData} {Q : VK} (h : Dp K H v d) (q : Q (.bl (isB d)) H) : rIsi K [v, .ty "bool"] H Q := isi_of kit_bool h q
theorem isi_list {K : PySem.W.Frag} {H : Hp} {v : V} {d : PyData} {Q : VK} (h : Dp K H v d) (q : Q (.bl (isL d)) H) : rIsi K [v, .ty "list"] H Q := isi_of kit_list h q
theorem isi_tuple {K : PySem.W.Frag} {H : Hp} {v : V} {d : PyData} {Q : VK} (h : Dp K H v d) (q : Q (.bl (isT d)) H) : rIsi K [v, .ty "tuple"] H Q := isi_of kit_tuple h q
/-- isinstance(x, (T, U)) -/
theorem isi_two {K : PySem.W.Frag} {H : Hp} {v : V} {d : PyData} {T U : String} {f g : PyData → Bool} {tp : Addr} {Q : VK} (kf : ∀ d, kitB (tyD d) T = some (f d)) (kg : ∀ d, kitB (tyD d) U = some (g d)) (h : Dp K H v d) (ht : H tp = some (.tup [.ty T, .ty U])) (q : Q (.bl (f d || g d)) H) :
    rIsiT K [v, .ref tp] H Q := by
  refine ⟨v, tp, _, _, [.type T, .type U], f d || g d, rfl, ht, .cons (.ty T) (.cons (.ty U) .nil), dp_ty h, ?_, q⟩
  refine kitAny_cons (kit_ty (kf d)) (fun e => ?_) (fun e => by rw [e]; rfl)
  refine kitAny_cons (kit_ty (kg d)) (fun e2 => ?_) (fun e2 => by rw [e2]; simp)
  rw [e, e2]; rfl
/-- the built-ins that the text uses and leaves alone -/
structure B0 (mg : Str → Option Value) : Prop where
  isinstance : mg "isinstance" = none
  int : mg "int" = none
  bool : mg "bool" = none
  list : mg "list" = none
  tuple : mg "tuple" = none
  len : mg "len" = none
  enumerate : mg "enumerate" = none
  abs : mg "abs" = none
  zip : mg "zip" = none
  all : mg "all" = none
  range : mg "range" = none
  min : mg "min" = none
section
variable {X : Cx} {p : Pos}
theorem pe_int_ (hg : Gl X "int") (h : X.mg "int" = none) : PE X (.Name "int" p) (tC (.ty "int")) := pe_bltn hg h PyProof.Rows.boot_int rfl
theorem pe_bool_ (hg : Gl X "bool") (h : X.mg "bool" = none) : PE X (.Name "bool" p) (tC (.ty "bool")) := pe_bltn hg h PyProof.Rows.boot_bool rfl
theorem pe_list_ (hg : Gl X "list") (h : X.mg "list" = none) : PE X (.Name "list" p) (tC (.ty "list")) := pe_bltn hg h PyProof.Rows.boot_list rfl
theorem pe_tuple_ (hg : Gl X "tuple") (h : X.mg "tuple" = none) : PE X (.Name "tuple" p) (tC (.ty "tuple")) := pe_bltn hg h PyProof.Rows.boot_tuple rfl
end
end Hs

set_option linter.all false
/-! The mathematics of pairs that do not cross: plain Lean. -/
namespace Hm
/-- everybody is the partner of their partner, nobody their own -/
def Prd (n : Nat) (m : Nat → Nat) : Prop := ∀ i, i < n → m i < n ∧ m i ≠ i ∧ m (m i) = i
/-- everybody is the partner of their partner, maybe their own -/
def Ivo (n : Nat) (m : Nat → Nat) : Prop := ∀ i, i < n → m i < n ∧ m (m i) = i
theorem Prd.ivo {n : Nat} {m : Nat → Nat} (h : Prd n m) : Ivo n m := fun i hi => ⟨(h i hi).1, (h i hi).2.2⟩
/-- two arms cross -/
def Crs (n : Nat) (m : Nat → Nat) : Prop := ∃ p t, p < t ∧ t < m p ∧ m p < m t ∧ m t < n ∧ t < n
/-- the arms that have begun and not ended ahead of i -/
def stk (m : Nat → Nat) (i : Nat) : List Nat := (List.range i).filter fun j => decide (i ≤ m j)
theorem mem_stk {m : Nat → Nat} {i j : Nat} : j ∈ stk m i ↔ j < i ∧ i ≤ m j := by
  unfold stk; rw [List.mem_filter, List.mem_range, decide_eq_true_eq]
theorem stk_lt (m : Nat → Nat) (i : Nat) : (stk m i).Pairwise (· < ·) := List.Pairwise.filter _ List.pairwise_lt_range
theorem stk_zero (m : Nat → Nat) : stk m 0 = [] := rfl
theorem stk_len (m : Nat → Nat) (i : Nat) : (stk m i).length ≤ i := by
  unfold stk
  exact Nat.le_trans (List.length_filter_le _ _) (by rw [List.length_range]; exact Nat.le_refl _)
theorem stk_push {n i : Nat} {m : Nat → Nat} (h : Ivo n m) (hi : i < n) (c : i < m i) : stk m (i + 1) = stk m i ++ [i] := by
  unfold stk
  rw [List.range_succ, List.filter_append]
  congr 1
  · apply List.filter_congr
    intro j hj
    have hj' := List.mem_range.mp hj
    have e : m j ≠ i := fun z => by
      have z2 := (h j (by omega)).2
      rw [z] at z2; omega
    by_cases q : i ≤ m j
    · rw [decide_eq_true q, decide_eq_true (show i + 1 ≤ m j by omega)]
    · rw [decide_eq_false q, decide_eq_false (show ¬ i + 1 ≤ m j by omega)]
  · rw [List.filter_cons, if_pos (decide_eq_true (by omega))]; rfl
/-- nothing that has ended ahead of i is crossed -/
def Clr (n : Nat) (m : Nat → Nat) (i : Nat) : Prop := ∀ p t, p < t → t < m p → m p < m t → m t < n → t < n → m p < i → False
theorem clr_push {n i : Nat} {m : Nat → Nat} (h : Ivo n m) (hi : i < n) (c : i < m i) (hc : Clr n m i) : Clr n m (i + 1) := by
  intro p t h1 h2 h3 h4 h5 h6
  by_cases z : m p < i
  · exact hc p t h1 h2 h3 h4 h5 z
  · have e : m p = i := by omega
    have e2 := (h p (by omega)).2
    rw [e] at e2; omega
/-- behind an arm's end: either the top of the pile is its beginning, or something crosses -/
theorem stk_pop {n i : Nat} {m : Nat → Nat} (h : Ivo n m) (hi : i < n) (c : m i < i) : ∃ l z, stk m i = l ++ [z] ∧ (z ≠ m i → Crs n m) ∧ (z = m i → stk m (i + 1) = l ∧ (Clr n m i → Clr n m (i + 1))) := by
  have hp := (h i hi)
  have hin : m i ∈ stk m i := mem_stk.mpr ⟨c, by rw [hp.2]; exact Nat.le_refl _⟩
  have asc := stk_lt m i
  have hne : stk m i ≠ [] := fun z => by rw [z] at hin; cases hin
  obtain ⟨l, z, e⟩ : ∃ l z, stk m i = l ++ [z] := ⟨(stk m i).dropLast, (stk m i).getLast hne, (List.dropLast_concat_getLast hne).symm⟩
  rw [e] at asc hin
  have hz : z ∈ stk m i := by rw [e]; simp
  obtain ⟨z1, z2⟩ := mem_stk.mp hz
  have asc2 := List.pairwise_append.mp asc
  refine ⟨l, z, e, fun nz => ?_, fun ez => ⟨?_, fun hc p t h1 h2 h3 h4 h5 h6 => ?_⟩⟩
  · have lt : m i < z := by
      rcases List.mem_append.mp hin with q | q
      · exact asc2.2.2 _ q z (by simp)
      · exact absurd (List.mem_singleton.mp q).symm nz
    have hzm : m z ≠ i := fun q => by
      have q2 := (h z (by omega)).2
      rw [q] at q2; exact nz q2.symm
    have hzn := (h z (by omega)).1
    exact ⟨m i, z, lt, by rw [hp.2]; exact z1, by rw [hp.2]; omega, hzn, by omega⟩
  · have e3 : stk m (i + 1) = (stk m i).filter fun j => decide (j ≠ m i) := by
      unfold stk
      rw [List.range_succ, List.filter_append, List.filter_filter]
      have e4 : List.filter (fun j => decide (i + 1 ≤ m j)) [i] = [] := by
        rw [List.filter_cons, if_neg (by simp; omega)]; rfl
      rw [e4, List.append_nil]
      apply List.filter_congr
      intro j hj
      have hj' := List.mem_range.mp hj
      have q1 := (h j (by omega)).2
      by_cases q : j = m i
      · have q3 : m j = i := by rw [q]; exact hp.2
        rw [decide_eq_false (show ¬ i + 1 ≤ m j by omega), decide_eq_false (show ¬ j ≠ m i from fun z => z q)]; rfl
      · have q3 : m j ≠ i := fun z => q (by rw [← z]; exact q1.symm)
        rw [decide_eq_true (show j ≠ m i from q), Bool.true_and]
        by_cases q4 : i ≤ m j
        · rw [decide_eq_true q4, decide_eq_true (show i + 1 ≤ m j by omega)]
        · rw [decide_eq_false q4, decide_eq_false (show ¬ i + 1 ≤ m j by omega)]
    rw [e3, e, List.filter_append]
    have e5 : List.filter (fun j => decide (j ≠ m i)) [z] = [] := by
      rw [List.filter_cons, if_neg (by simp [ez])]; rfl
    rw [e5, List.append_nil]
    apply List.filter_eq_self.mpr
    intro j hj
    have := asc2.2.2 j hj z (by simp)
    exact decide_eq_true (by omega)
  · by_cases q : m p < i
    · exact hc p t h1 h2 h3 h4 h5 q
    · have q2 : m p = i := by omega
      have q3 := (h p (by omega)).2
      rw [q2] at q3
      have ht : t ∈ stk m i := mem_stk.mpr ⟨by omega, by omega⟩
      rw [e] at ht
      rcases List.mem_append.mp ht with y | y
      · have := asc2.2.2 t y z (by simp)
        omega
      · have := List.mem_singleton.mp y
        omega
theorem stk_own {n i : Nat} {m : Nat → Nat} (h : Ivo n m) (hi : i < n) (c : m i = i) : stk m (i + 1) = stk m i := by
  unfold stk
  rw [List.range_succ, List.filter_append]
  have e4 : List.filter (fun j => decide (i + 1 ≤ m j)) [i] = [] := by
    rw [List.filter_cons, if_neg (by simp; omega)]; rfl
  rw [e4, List.append_nil]
  apply List.filter_congr
  intro j hj
  have hj' := List.mem_range.mp hj
  have e : m j ≠ i := fun z => by
    have z2 := (h j (by omega)).2
    rw [z, c] at z2; omega
  by_cases q : i ≤ m j
  · rw [decide_eq_true q, decide_eq_true (show i + 1 ≤ m j by omega)]
  · rw [decide_eq_false q, decide_eq_false (show ¬ i + 1 ≤ m j by omega)]
theorem clr_own {n i : Nat} {m : Nat → Nat} (h : Ivo n m) (hi : i < n) (c : m i = i) (hc : Clr n m i) : Clr n m (i + 1) := by
  intro p t h1 h2 h3 h4 h5 h6
  by_cases z : m p < i
  · exact hc p t h1 h2 h3 h4 h5 z
  · have e : m p = i := by omega
    have e2 := (h p (by omega)).2
    rw [e, c] at e2; omega
theorem clr_zero (n : Nat) (m : Nat → Nat) : Clr n m 0 := fun _ _ _ _ _ _ _ h => absurd h (Nat.not_lt_zero _)
theorem clr_end {n : Nat} {m : Nat → Nat} (hc : Clr n m n) : ¬ Crs n m := by
  rintro ⟨p, t, h1, h2, h3, h4, h5⟩
  exact hc p t h1 h2 h3 h4 h5 (by omega)

/-- do the pairs (i, j) and (p, q) cross -/
def crI (i j p q : Int) : Bool :=
  (decide ((if j < i then j else i) < p) && decide (p < (if i < j then j else i))) != (decide ((if j < i then j else i) < q) && decide (q < (if i < j then j else i)))
/-- the arms that begin ahead of i -/
def armsN (m : Nat → Nat) (i : Nat) : List (Nat × Nat) := ((List.range i).filter fun j => decide (j < m j)).map fun j => (j, m j)
theorem armsN_yes {m : Nat → Nat} {i : Nat} (c : i < m i) : armsN m (i + 1) = armsN m i ++ [(i, m i)] := by
  unfold armsN
  rw [List.range_succ, List.filter_append, List.map_append, List.filter_cons, if_pos (decide_eq_true c)]; rfl
theorem armsN_no {m : Nat → Nat} {i : Nat} (c : ¬ i < m i) : armsN m (i + 1) = armsN m i := by
  unfold armsN
  rw [List.range_succ, List.filter_append, List.map_append, List.filter_cons, if_neg (by rw [decide_eq_false c]; exact Bool.false_ne_true)]
  show _ ++ [] = _
  rw [List.append_nil]
theorem armsN_len (m : Nat → Nat) (i : Nat) : (armsN m i).length ≤ i := by
  unfold armsN
  rw [List.length_map]
  exact Nat.le_trans (List.length_filter_le _ _) (by rw [List.length_range]; exact Nat.le_refl _)
def cr2 (a b : Nat × Nat) : Bool := crI a.1 a.2 b.1 b.2
/-- no two of the pairs cross -/
def NoX (L : List (Nat × Nat)) : Prop := ∀ i j, j < i → i < L.length → cr2 (L.getD i (0, 0)) (L.getD j (0, 0)) = false
theorem cr2_of {a b c d : Nat} (h1 : a < b) (h2 : c < a) : cr2 (a, b) (c, d) = (decide (a < d) && decide (d < b)) := by
  unfold cr2 crI
  show ((decide ((if (b : Int) < a then (b : Int) else a) < c) && decide ((c : Int) < (if (a : Int) < b then (b : Int) else a))) != (decide ((if (b : Int) < a then (b : Int) else a) < d) && decide ((d : Int) < (if (a : Int) < b then (b : Int) else a)))) = _
  rw [if_neg (by omega), if_pos (by omega), decide_eq_false (show ¬ (a : Int) < c by omega)]
  by_cases e1 : a < d
  · by_cases e2 : d < b
    · rw [decide_eq_true e1, decide_eq_true e2, decide_eq_true (show (a : Int) < d by omega), decide_eq_true (show (d : Int) < b by omega)]; rfl
    · rw [decide_eq_true e1, decide_eq_false e2, decide_eq_true (show (a : Int) < d by omega), decide_eq_false (show ¬ (d : Int) < b by omega)]; rfl
  · rw [decide_eq_false e1, decide_eq_false (show ¬ (a : Int) < d by omega)]; rfl
def begN (m : Nat → Nat) (n : Nat) : List Nat := (List.range n).filter fun j => decide (j < m j)
theorem begN_mem {m : Nat → Nat} {n j : Nat} : j ∈ begN m n ↔ j < n ∧ j < m j := by
  unfold begN; rw [List.mem_filter, List.mem_range, decide_eq_true_eq]
theorem begN_lt (m : Nat → Nat) (n : Nat) : (begN m n).Pairwise (· < ·) := List.Pairwise.filter _ List.pairwise_lt_range
theorem armsN_eq (m : Nat → Nat) (n : Nat) : armsN m n = (begN m n).map fun j => (j, m j) := rfl
theorem arms_getD {m : Nat → Nat} {n i : Nat} (h : i < (begN m n).length) : (armsN m n).getD i (0, 0) = ((begN m n)[i], m (begN m n)[i]) := by
  rw [armsN_eq, List.getD_eq_getElem?_getD, List.getElem?_map, List.getElem?_eq_getElem h]; rfl
theorem nox_iff {n : Nat} {m : Nat → Nat} (h : Prd n m) : NoX (armsN m n) ↔ ¬ Crs n m := by
  have hl : (armsN m n).length = (begN m n).length := by rw [armsN_eq, List.length_map]
  have asc := List.pairwise_iff_getElem.mp (begN_lt m n)
  constructor
  · rintro hN ⟨p, t, h1, h2, h3, h4, h5⟩
    obtain ⟨ip, hip, ep⟩ := List.mem_iff_getElem.mp (begN_mem.mpr ⟨(by omega : p < n), (by omega : p < m p)⟩)
    obtain ⟨it, hit, et⟩ := List.mem_iff_getElem.mp (begN_mem.mpr ⟨h5, (by omega : t < m t)⟩)
    have lt : ip < it := by
      rcases Nat.lt_trichotomy ip it with z | z | z
      · exact z
      · subst z; omega
      · have := asc it ip hit hip z; omega
    have := hN it ip lt (by omega)
    rw [arms_getD hit, arms_getD hip, ep, et, cr2_of (by omega) h1, decide_eq_true h2, decide_eq_true h3] at this
    cases this
  · intro hC i j hji hi
    have hi' : i < (begN m n).length := by omega
    have hj' : j < (begN m n).length := by omega
    rw [arms_getD hi', arms_getD hj']
    obtain ⟨a1, a2⟩ := begN_mem.mp (List.getElem_mem hi')
    obtain ⟨c1, c2⟩ := begN_mem.mp (List.getElem_mem hj')
    have lt := asc j i hj' hi' hji
    rw [cr2_of a2 lt]
    cases e : (decide ((begN m n)[i] < m (begN m n)[j]) && decide (m (begN m n)[j] < m (begN m n)[i])) with
    | false => rfl
    | true =>
      obtain ⟨e1, e2⟩ := Bool.and_eq_true_iff.mp e
      exact absurd ⟨_, _, lt, of_decide_eq_true e1, of_decide_eq_true e2, (h _ a1).1, a1⟩ hC
end Hm

set_option Elab.async false
set_option linter.all false
set_option maxRecDepth 100000
set_option maxHeartbeats 4000000
/-! sorted, min, max of a tuple of ints; a tuple from behind. -/
namespace Hs
open PySem PySem.Spec PyProof.Rows L2 PySem.W
section
variable {prog : Program} {w : World} {A : Around} {E : Value → Shared → Prop} {s : Shared}
abbrev collH (h : Heap) (vs : List Value) : Heap := (h.push (seqObj "list" #[] 0)).update h.objs.size (Obj.mapSeq (· ++ vs.toArray))
theorem collect_tup {l : Addr} {vs : List Value} {Q : List Value → Shared → Prop} (hl : IsTup s.heap l vs.toArray) (h : Q vs { s with heap := collH s.heap vs }) (hsz : vs.length ≤ sizeLine) : wpAny (model prog w) A (collect (.ref l)) Q E s := by
  obtain ⟨o, ho, hc, n, hd⟩ := id hl
  unfold collect
  refine wpAny_bind (wpAny_runValue (codeAny_builtin entry_proto_collect' ?_))
  show wpAny _ _ (do again (.builtin "list.__iadd__" ⟨[← newList [], .ref l], []⟩)) _ _ s
  refine wpAny_bind (wpAny_newList (wpAny_pure ⟨Code.quiet_builtin _ (by decide +kernel), codeAny_builtin entry_list_iadd' ?_⟩))
  show wpAny _ _ (Builtin.List.listExtendWith (.ref s.heap.objs.size) (.ref l) (.ref s.heap.objs.size)) _ _ { s with heap := s.heap.push (seqObj "list" #[] 0) }
  unfold Builtin.List.listExtendWith
  have there : (s.heap.push (seqObj "list" #[] 0)).get? l = some o := Heap.get?_push_of_some _ ho
  have fresh : (s.heap.push (seqObj "list" #[] 0)).get? s.heap.objs.size = some (seqObj "list" #[] 0) := Heap.get?_push_size _ rfl
  refine wpAny_bind (wpAny_typeOf (T := "tuple") ⟨o, there, hc⟩ ?_)
  rw [if_pos (by rw [show (Value.type "tuple" == Value.type "tuple") = true from rfl]; simp)]
  refine wpAny_bind (listItems_at there hd (wpAny_bind (listItems_at (xs := #[]) (n := 0) fresh rfl ?_)))
  rw [if_neg (by simp)]
  refine wpAny_bind (listUpdate_at (xs := #[]) (n := 0) fresh rfl (wpAny_pure ?_) (Nat.zero_le _) ?_)
  · show wpAny (model prog w) A (do
        let o ← load s.heap.objs.size
        match o.data with | .seq xs _ => pure xs.toList | _ => unsupported "internal:collect") Q E { s with heap := collH s.heap vs }
    refine wpAny_bind (wpAny_load (get?_update_seq fresh _) ?_)
    show wpAny _ _ (pure ((#[] : Array Value) ++ vs.toArray).toList) Q E _
    rw [show ((#[] : Array Value) ++ vs.toArray).toList = vs by simp]
    exact wpAny_pure h
  · show (#[] ++ vs.toArray).size ≤ sizeLine + 1
    simp only [Array.size_append, List.size_toArray, List.length_nil]; omega
theorem sorted_tupI {l : Addr} {vs : List Value} {ns : List Int} {Q : Value → Shared → Prop} (hl : IsTup s.heap l vs.toArray) (hI : IntsAre vs ns) (h64 : vs.length < 64)
    (h : ∀ (out : Array Value) (ms : List Int), IntsAre out.toList ms → ms.Perm ns → ms.Pairwise (· ≤ ·) → Q (.ref (s.heap.objs.size + 1)) { s with heap := sortedAll s.heap vs out }) : wpAny (model prog w) A (call (.builtin "sorted") [.ref l]) Q E s := by
  refine Calls.call_function_entry kind_sorted plain_sorted entry_sorted (args_sorted1 _) ?_
  unfold Builtin.«sorted»
  refine wpAny_bind (m := checkCount "sorted" 1 1 _) (wpAny_pure (wpAny_bind (collect_tup hl (wpAny_bind (wpAny_newList ?_)) (by rw [sizeLine_eq]; omega))))
  have hz : (collH s.heap vs).objs.size = s.heap.objs.size + 1 := by rw [Heap.size_update, size_push']
  have made : ((collH s.heap vs).push (seqObj "list" vs.toArray 0)).get? (s.heap.objs.size + 1) = some (seqObj "list" vs.toArray 0) := by rw [← hz]; exact Heap.get?_push_size _ rfl
  show wpAny _ _ _ _ _ { s with heap := (collH s.heap vs).push (seqObj "list" vs.toArray 0) }
  rw [hz]
  refine wpAny_bind (wpAny_holding (wpAny_call_entry slot_list_sort ⟨_, made, rfl⟩ entry_list_sort (list_sort_tree made hI h64 fun out ms a1 a2 a3 => ⟨_, rfl, wpAny_pure ⟨_, rfl, h out ms a1 a2 a3⟩⟩) (args_list_sort _)))
end
section
variable {X : Cx}
/-- sorted(t), t a tuple or a list of ints -/
theorem cr_sortedA : CallR X (.builtin "sorted") (fun vs H Q => ∃ (a : Addr) (ns : List Int), vs = [V.ref a] ∧ (SqT X.K H a (ns.map V.int) ∨ SqL X.K H a (ns.map V.int)) ∧ ns.length < 64 ∧ ∀ (ms : List Int) (p : Addr), ms.Perm ns → ms.Pairwise (· ≤ ·) → H p = none → Q (.ref p) (upd H p (.lst (ms.map V.int)))) := by
  intro pins s σ H vs us Q I r h
  obtain ⟨a, ns, rfl, hs, h64, q⟩ := h
  rcases hs with hs | hs
  · obtain ⟨its, rv, hl, _⟩ := I.tuple hs
    rw [Vals.ref1 r]
    have hi := rv.ints
    refine sorted_tupI hl hi (by rw [hi.length]; exact h64) fun out ms h1 h2 h3 => ?_
    obtain ⟨ep, he⟩ := PyProof.Rows.sortedAll_at s.heap its out
    have hz : (ms.map V.int).length ≤ sizeLine := by rw [List.length_map, h2.length_eq]; exact small64 h64
    exact ⟨.ref _, upd H (s.heap.objs.size + 1) (.lst (ms.map V.int)), I.laid (t' := s.toks) (fun _ _ => PyProof.Rows.sortedAll_old) (Nat.le_succ _) ⟨hz, out.toList, ep, vals_of_ints h1, he⟩, rfl, q ms _ h2 h3 (I.hok.fresh (Nat.le_succ _))⟩
  · exact cr_sorted pins s σ H _ us Q I r ⟨a, ns, rfl, hs, h64, q⟩
end

/-! ### min and max of a pair of ints -/
section
variable {X : Cx}
theorem holds_is {h : Heap} {v : Value} {n : Int} (H : Holds h v n) : ∃ t, v = .int n t := by
  obtain ⟨as, r⟩ := H
  cases r
  exact ⟨_, rfl⟩
theorem cr_min2T (hc : X.calm = true) (hu : X.A.units + 64 < cLine) : CallR X (.builtin "min") (fun vs H Q => ∃ (a : Addr) (i j : Int), vs = [V.ref a] ∧ SqT X.K H a [.int i, .int j] ∧ Q (.int (if j < i then j else i)) H) := by
  intro pins s σ H vs us Q I r h
  obtain ⟨a, i, j, rfl, hs, q⟩ := h
  obtain ⟨its, rv, hl, _⟩ := I.tuple hs
  rw [Vals.ref1 r]
  have hi : IntsAre its [i, j] := rv.ints (ns := [i, j])
  refine min_tuple_datum (x := i) (xs := [j]) (I.ok.hd hc) hl (by simpa using HoldAll.of_ints hi) (by show X.A.units + 1 + 0 < cLine; omega) fun k v h' tk hv hh hk => ?_
  obtain ⟨t, rfl⟩ := holds_is hh
  have e : minOf i [j] = if j < i then j else i := by
    show (if decide (j < i) = true then j else i) = _
    by_cases c : j < i
    · rw [if_pos (decide_eq_true c), if_pos c]
    · rw [if_neg (by rw [decide_eq_false c]; exact Bool.false_ne_true), if_neg c]
  exact ⟨.int _, H, I.kept (t' := tk) hk, ⟨t, rfl⟩, by rw [e]; exact q⟩
theorem cr_max2T (hc : X.calm = true) (hu : X.A.units + 64 < cLine) : CallR X (.builtin "max") (fun vs H Q => ∃ (a : Addr) (i j : Int), vs = [V.ref a] ∧ SqT X.K H a [.int i, .int j] ∧ Q (.int (if i < j then j else i)) H) := by
  intro pins s σ H vs us Q I r h
  obtain ⟨a, i, j, rfl, hs, q⟩ := h
  obtain ⟨its, rv, hl, _⟩ := I.tuple hs
  rw [Vals.ref1 r]
  have hi : IntsAre its [i, j] := rv.ints (ns := [i, j])
  refine max_tuple_datum (x := i) (xs := [j]) (I.ok.hd hc) hl (by simpa using HoldAll.of_ints hi) (by show X.A.units + 1 + 0 < cLine; omega) fun k v h' tk hv hh hk => ?_
  obtain ⟨t, rfl⟩ := holds_is hh
  have e : maxOf i [j] = if i < j then j else i := by
    show (if decide (i < j) = true then j else i) = _
    by_cases c : i < j
    · rw [if_pos (decide_eq_true c), if_pos c]
    · rw [if_neg (by rw [decide_eq_false c]; exact Bool.false_ne_true), if_neg c]
  exact ⟨.int _, H, I.kept (t' := tk) hk, ⟨t, rfl⟩, by rw [e]; exact q⟩
end
/-! ### t[::-1] -/
section
variable {prog : Program} {w : World} {A : Around} {E : Value → Shared → Prop} {s : Shared}
theorem adjust_rev (n : Nat) : Builtin.Slice.sliceAdjust none none (-1) (n : Int) = ((n : Int) - 1, -1) := by
  unfold Builtin.Slice.sliceAdjust
  simp only [show ((-1 : Int) < 0) from by decide, if_true]
theorem places_rev (n : Nat) : Builtin.Slice.slicePlaces ((n : Int) - 1) (-1) (-1) = n := by
  unfold Builtin.Slice.slicePlaces
  rw [if_neg (by decide)]
  have e : (-(-1 : Int)) = 1 := by decide
  rw [e]
  by_cases h : (n : Int) - 1 > -1
  · rw [if_pos h, Int.ediv_one]; omega
  · rw [if_neg h]; omega
theorem pick_rev (xs : Array Value) : ((List.range xs.size).filterMap fun (m : Nat) => xs[(((xs.size : Nat) : Int) - 1 + (m : Int) * (-1)).toNat]?) = xs.toList.reverse := by
  have key : ∀ k, k ≤ xs.size → ((List.range k).filterMap fun (m : Nat) => xs[(((xs.size : Nat) : Int) - 1 + (m : Int) * (-1)).toNat]?) = xs.toList.reverse.take k := by
    intro k
    induction k with
    | zero => intro _; rfl
    | succ k ih =>
      intro hk
      rw [List.range_succ, List.filterMap_append, ih (by omega), List.take_succ]
      congr 1
      have e : ((((xs.size : Nat) : Int) - 1 + (k : Int) * (-1)).toNat) = xs.size - 1 - k := by omega
      show (List.filterMap _ [k]) = _
      rw [List.filterMap_cons, e]
      have lt : xs.size - 1 - k < xs.size := by omega
      have e2 : xs.toList.reverse[k]? = xs[xs.size - 1 - k]? := by
        rw [List.getElem?_reverse (by rw [Array.length_toList]; omega), Array.length_toList, Array.getElem?_toList]
      rw [e2, Array.getElem?_eq_getElem lt]
      rfl
  rw [key xs.size (Nat.le_refl _)]
  exact List.take_of_length_le (by rw [List.length_reverse, Array.length_toList]; exact Nat.le_refl _)
theorem sliceApplied_rev {sl : Addr} {vl vu vs : Value} {n : Nat} {Q : Int × Int × Nat → Shared → Prop} (hs : s.heap.IsSliceOf sl vl vu vs) (pl : IsPart vl none) (pu : IsPart vu none) (ps : IsPart vs (some (-1))) (h : Q (((n : Int) - 1), -1, n) s) :
    wpAny (model prog w) A (Builtin.Slice.sliceApplied (.ref sl) (pure (n : Int))) Q E s := by
  obtain ⟨os, hos, hcs, hds⟩ := id hs
  unfold Builtin.Slice.sliceApplied Builtin.Slice.sliceFields
  refine wpAny_bind (wpAny_bind (wpAny_field hos hds (x := vl) rfl (wpAny_bind (wpAny_field hos hds (x := vu) rfl (wpAny_bind (wpAny_field hos hds (x := vs) rfl (wpAny_pure ?_)))))))
  refine wpAny_bind (HT.slicePart_ ps ?_)
  show wpAny _ _ (if ((-1 : Int) == 0) = true then _ else _) _ _ s
  rw [if_neg (by decide)]
  refine wpAny_bind (HT.slicePart_ pl (wpAny_bind (HT.slicePart_ pu (wpAny_bind (wpAny_pure ?_)))))
  show wpAny _ _ (match Builtin.Slice.sliceAdjust none none (-1) (n : Int) with | (lo, hi) => pure (lo, (-1 : Int), Builtin.Slice.slicePlaces lo hi (-1))) _ _ s
  rw [adjust_rev n]
  show wpAny _ _ (pure ((n : Int) - 1, (-1 : Int), Builtin.Slice.slicePlaces ((n : Int) - 1) (-1) (-1))) _ _ s
  rw [places_rev]
  exact wpAny_pure h
theorem getItem_tuple_rev {t sl : Addr} {items : Array Value} {vl vu vs : Value} {Q : Value → Shared → Prop} (ht : IsTup s.heap t items) (hs : s.heap.IsSliceOf sl vl vu vs) (pl : IsPart vl none) (pu : IsPart vu none) (ps : IsPart vs (some (-1)))
    (h : Q (.ref s.heap.objs.size) { s with heap := s.heap.push { cls := .type "tuple", data := .seq items.toList.reverse.toArray } }) (hsz : items.size ≤ sizeLine) : wpAny (model prog w) A (getItem (.ref t) (.ref sl)) Q E s := by
  have fits : sizeOk (.seq items.toList.reverse.toArray) := by
    show items.toList.reverse.toArray.size ≤ sizeLine
    rw [List.size_toArray, List.length_reverse, Array.length_toList]; exact hsz
  obtain ⟨os, hos, hcs, hds⟩ := id hs
  unfold getItem
  try with_reducible refine wpAny_holding ?_
  first | refine wpAny_bind (wpAny_pure ?_) | skip
  refine wpAny_bind (wpAny_sequenceKey ht.typeIs (by decide) (wpAny_bind (wpAny_callSpecial?_slot (name := Str.ofString "__getitem__") ht.typeIs PyProof.Rows.slot_tuple_getitem (wpAny_call_entry PyProof.Rows.slot_tuple_getitem ht.typeIs entry_tuple_getitem ?_ (args_tuple_getitem _ _)))))
  show wpAny _ _ (Builtin.Tuple.tupleItemsOf (.ref t) >>= _) _ _ s
  refine wpAny_bind (tupleItemsOf_ ht (wpAny_bind (wpAny_typeOf (T := "slice") ⟨os, hos, hcs⟩ ?_)))
  rw [if_pos (by decide)]
  refine wpAny_bind (sliceApplied_rev hs pl pu ps ?_)
  show wpAny _ _ (if ((((items.size : Nat) : Int) - 1) == 0 && (-1 : Int) == 1 && items.size == items.size) = true then _ else _) _ _ s
  rw [if_neg (by rw [show ((-1 : Int) == 1) = false from rfl]; simp), pick_rev]
  first
    | exact wpAny_bind (m := Builtin.Tuple.tupleExact _) (wpAny_newObj_type (wpAny_pure ⟨_, rfl, wpAny_pure h⟩) fits)
    | exact wpAny_bind (m := Builtin.Tuple.tupleExact _) (wpAny_newObj_type (wpAny_bind (wpAny_pure (wpAny_pure ⟨_, rfl, wpAny_pure h⟩))) fits)
    | exact wpAny_bind (wpAny_bind (m := Builtin.Tuple.tupleExact _) (wpAny_newObj_type (wpAny_pure (wpAny_pure ⟨_, rfl, wpAny_pure h⟩)) fits))
    | exact wpAny_bind (wpAny_bind (m := Builtin.Tuple.tupleExact _) (wpAny_newObj_type (wpAny_pure ⟨_, rfl, wpAny_pure h⟩) fits))
end
section
variable {X : Cx}
def tRevT (K : PySem.W.Frag) (te : TE) : TE := fun σ H Q => te σ H fun x G => ∃ a xs, x = .ref a ∧ SqT K G a xs ∧ ∀ p, G p = none → Q (.ref p) (upd G p (.tup xs.reverse))
theorem pe_revT {e : Expr} {te : TE} {k : Nat} {p1 p2 p3 pos : Pos} (he : PE X e te) : PE X (.Subscript e (.Slice none none (some (.UnaryOp .USub (.Constant (.int 1) k p1) p2)) p3) pos) (tRevT X.K te) := by
  refine ⟨fun pins s σ H Q I h => ?_⟩
  refine Subscript_ (thn (he.run pins s σ H _ I h) fun v s1 z => ?_)
  obtain ⟨x, H1, I1, r1, a, xs, ex, hx, q⟩ := z
  subst ex
  cases r1
  have step : PO X (some (.UnaryOp .USub (.Constant (.int 1) k p1) p2)) (tPart (tUn (rU fun i => .int (-i)) (tC (.int 1)))) := po_some (pe_un un_neg pe_int)
  refine wpAny_Slice (thn (po_none.run pins s1 σ H1 (fun o G => o = none ∧ G = H1) I1 ⟨rfl, rfl⟩) fun vl s2 z2 => ?_)
  obtain ⟨l, H2, I2, pl, rfl, rfl⟩ := z2
  refine thn (po_none.run pins s2 σ H2 (fun o G => o = none ∧ G = H2) I2 ⟨rfl, rfl⟩) fun vu s3 z3 => ?_
  obtain ⟨u, H3, I3, pu, rfl, rfl⟩ := z3
  refine thn (step.run pins s3 σ H3 (fun o G => o = some (-1) ∧ G = H3) I3 ⟨1, rfl, -1, rfl, rfl, rfl⟩) fun vs s4 z4 => ?_
  obtain ⟨o, H4, I4, ps, rfl, rfl⟩ := z4
  have I5 : Inv X pins σ H4 { s4 with heap := s4.heap.push { cls := .type "slice", data := .fields #[vl, vu, vs] } } := I4.kept (t' := s4.toks) fun b ob y => Heap.get?_push_of_some _ y
  obtain ⟨its, r, ht, hz⟩ := I5.tuple hx
  have hlen := r.length
  show wpAny (model X.prog X.w) X.A (subscriptTail e (.Slice none none (some (.UnaryOp .USub (.Constant (.int 1) k p1) p2)) p3) (.ref a) (.ref s4.heap.objs.size)) (EP X pins σ Q) X.xe { s4 with heap := s4.heap.push { cls := .type "slice", data := .fields #[vl, vu, vs] } }
  refine tail_any (ops := [.ref a, .ref s4.heap.objs.size]) ht.typeIs PyProof.Rows.slot_tuple_getitem.lookup ?_ (by with_unfolding_all rfl)
  refine getItem_tuple_rev ht (Heap.IsSliceOf.new _ vl vu vs) pl pu ps ?_ (by rw [List.size_toArray]; omega)
  refine ⟨.ref _, _, I5.laid (t' := s4.toks) (o := .tup xs.reverse) (fun b ob y => Heap.get?_push_of_some _ y) (Nat.le_refl _) ?_, rfl, q _ (I5.hok.fresh (Nat.le_refl _))⟩
  exact ⟨by rw [List.length_reverse]; exact hz, _, by simpa using r.reverse, IsTup.new _ _⟩
end
end Hs

set_option Elab.async false
set_option linter.all false
set_option maxRecDepth 100000
set_option maxHeartbeats 4000000
/-! A def called by keywords alone. -/
namespace Hs
open PySem PySem.Spec PyProof.Rows L2
/-- how keywords alone bind: gp puts their values in the parameters' order -/
structure KOnly (fd : FuncData) (ps ks : List Str) (gp : {α : Type} → List α → List α) : Prop where
  to : ∀ (s : Shared) (ws : List Value), ws.length = ks.length → BindsTo s fd ⟨[], ks.zip ws⟩ (ps.zip (gp ws))
  rel : ∀ {zs : List V} {ws : List Value}, Vals zs ws → zs.length = ks.length → Vals (gp zs) (gp ws)
theorem konly1 {K : PySem.W.Frag} {x qual : Str} {st : Stmt} {f : Addr} {fd : FuncData} {p : Str} (F : Fun K x qual st f fd)
    (h : ∀ (kV doc pm : Value) (an : Option Addr) (cdv ct u : Value), bindArgs (PySem.W.fnOf x qual (defArgs st) (defBody st) (defScope st) .none kV doc pm an cdv ct) ⟨[], [(p, u)]⟩ = pure [(p, u)]) : KOnly fd [p] [p] (fun l => l) := by
  obtain ⟨oc, od, kV, doc, pm, an, cdv, ct, osl, rfl, lk, hcd⟩ := F.ex
  refine ⟨fun s ws hl => ?_, fun r _ => r⟩
  match ws, hl with
  | [u], _ => exact .of_eq (h kV doc pm an cdv ct u)
def swap2 {α : Type} : List α → List α
  | [a, b] => [b, a]
  | l => l
theorem konly2 {K : PySem.W.Frag} {x qual : Str} {st : Stmt} {f : Addr} {fd : FuncData} {p q : Str} (F : Fun K x qual st f fd)
    (h : ∀ (kV doc pm : Value) (an : Option Addr) (cdv ct u v : Value), bindArgs (PySem.W.fnOf x qual (defArgs st) (defBody st) (defScope st) .none kV doc pm an cdv ct) ⟨[], [(q, u), (p, v)]⟩ = pure [(p, v), (q, u)]) : KOnly fd [p, q] [q, p] swap2 := by
  obtain ⟨oc, od, kV, doc, pm, an, cdv, ct, osl, rfl, lk, hcd⟩ := F.ex
  refine ⟨fun s ws hl => ?_, fun {zs ws} r hl => ?_⟩
  · match ws, hl with
    | [u, v], _ => exact .of_eq (h kV doc pm an cdv ct u v)
  · match zs, hl with
    | [a, b], _ =>
      cases r with
      | cons r1 r =>
        cases r with
        | cons r2 r =>
          cases r
          exact .cons r2 (.cons r1 .nil)
def tKw0 (sp : Sp) (n : Nat) (gp : List V → List V) (E : XK) (tk : TA) : TE := fun σ H Q => tk σ H fun zs G => zs.length = n ∧ sp (gp zs) G Q E
section
variable {X : Cx} {CX : CXT} {k : Nat} {f : Addr} {fd : FuncData} {ps ks : List Str} {sp : Sp} {E : XK} {x : Str} {p pos : Pos} {kws : List Keyword} {tk : TA} {gp : {α : Type} → List α → List α}
theorem pe_kw0 (F : FnOk X.prog X.w X.K X.mg X.base CX k f fd ps sp) (hr : Room k X.A) (hg : Gl X x) (hm : X.mg x = some (.ref f)) (hk : PySem.W.keepIn X.K (.ref f) = true) (hb : KOnly fd ps ks gp) (hx : Passes CX X E) (hkw : PK X kws tk)
    (hall : (backToKw pos (keywordEach kws X.env)).all (·.1.isSome) = true := by rfl) (hks : (backToKw pos (keywordEach kws X.env)).filterMap (·.1) = ks := by rfl) (hdb : (x == ("__debug__" : Str)) = false := by decide)
    (hpl : ((backTo pos (starEach [] X.env)).any (·.1) || (backToKw pos (keywordEach kws X.env)).any (·.1.isNone)) = false := by rfl) :
    PE X (.Call (.Name x p) [] kws pos) (tKw0 sp ks.length gp E tk) := by
  refine ⟨fun pins s σ H Q I h => ?_⟩
  refine wpAny_Call_Name_kw (ld_glob I hg hm ?_ hdb)
  refine PySem.W.callWith_KW0 (h₀ := X.base) I.ok.mod.kin hk hall (thn (hkw.run pos pins s σ H _ I h) fun ws s2 z => ?_) hpl
  obtain ⟨zs, G, J, rz, hl, q2⟩ := z
  refine ⟨J.kIn, ?_⟩
  rw [hks]
  have lw : ws.length = ks.length := by rw [← rz.length]; exact hl
  refine wpAny_call (codeAny_mono (F.run X.A X.stack s2 G ⟨[], ks.zip ws⟩ (gp ws) (gp zs) Q E hr J.env0 (hb.to s2 ws lw) (hb.rel rz hl) q2) fun r s' hq => ?_)
  cases r with
  | error er => exact hx pins σ G s2 er s' J hq
  | ok fl =>
    cases fl with
    | ret u => exact J.after hq
    | next => exact False.elim hq
    | brk => exact False.elim hq
    | cont => exact False.elim hq
end
section
variable {X : Cx}
/-- t[lo:hi], whether it is t itself or a new tuple -/
theorem sl_tupU : SlR X (fun x lo hi H Q => ∃ a xs, x = .ref a ∧ SqT X.K H a xs ∧ ∀ p G, Same H G → SqT X.K G p (cutV xs lo hi) → Q (.ref p) G) := by
  intro pins s σ H x v vl vu lo hi sl Q I rx hs pl pu h
  obtain ⟨a, xs, rfl, hx, q⟩ := h
  refine sl_tupA pins s σ H (.ref a) v vl vu lo hi sl Q I rx hs pl pu ⟨a, xs, rfl, hx, fun hw => ?_, fun _ p np => q p _ (same_new np) (SqT.of upd_same)⟩
  refine q a H (Same.refl _) ?_
  have e : cutV xs lo hi = xs := by
    unfold cutV
    rw [hw.1, hw.2, List.drop_zero, Nat.sub_zero, List.take_length]
  rw [e]; exact hx
/-- t + u, whether it is one of them or a new tuple -/
theorem op_catU : OpR X (binaryOp .Add) (fun x y H Q => ∃ a b xs ys, x = .ref a ∧ y = .ref b ∧ SqT X.K H a xs ∧ SqT X.K H b ys ∧ xs.length + ys.length ≤ sizeLine ∧ ∀ p G, Same H G → SqT X.K G p (xs ++ ys) → Q (.ref p) G) := by
  intro pins s σ H x y v u Q I rx ry h
  obtain ⟨a, b, xs, ys, rfl, rfl, ha, hb, hz, q⟩ := h
  refine op_catA pins s σ H (.ref a) (.ref b) v u Q I rx ry ⟨a, b, xs, ys, rfl, rfl, ha, hb, hz, fun e => ?_, fun _ e => ?_, fun _ _ p np => q p _ (same_new np) (SqT.of upd_same)⟩
  · refine q b H (Same.refl _) ?_
    rw [e]; exact hb
  · refine q a H (Same.refl _) ?_
    rw [e, List.append_nil]; exact ha
end
end Hs

set_option Elab.async false
set_option linter.all false
set_option maxRecDepth 100000
set_option maxHeartbeats 4000000
namespace K01
open PySem PySem.Spec PyProof.Rows L2 Hs Hm
def topS (i : Nat) : Stmt := PySem.Challenge.pw_handshakes_k01_arrangements_or_not.main.body.getD i (.Pass ⟨0, 0, 0, 0⟩)
abbrev sIsNumber : Stmt := topS 1
abbrev sIsPerson : Stmt := topS 2
abbrev sAllPaired : Stmt := topS 3
abbrev sSomeCross : Stmt := topS 4
abbrev sIsArr : Stmt := topS 5
abbrev sArms : Stmt := topS 6
abbrev sCross : Stmt := topS 7
abbrev sCellAt : Stmt := topS 9
abbrev sBox : Stmt := topS 10
abbrev sTake : Stmt := topS 11
abbrev sOf : Stmt := topS 12
abbrev sSame : Stmt := topS 13
abbrev sStrewn : Stmt := topS 14
abbrev sIsInt : Stmt := topS 15
abbrev sHall : Stmt := topS 16
abbrev sPairs : Stmt := topS 17
abbrev sCrossed : Stmt := topS 18
abbrev sClear : Stmt := topS 19
abbrev sSeated : Stmt := topS 20
abbrev sBent : Stmt := topS 21
abbrev sIsHall : Stmt := topS 22
abbrev sRight : Stmt := topS 23
abbrev sLaw : Stmt := topS 24
section
variable {P : Program} {w : World} {K : PySem.W.Frag} {mg : Str → Option Value} {base : Heap} {f : Addr} {fd : FuncData}
/-! ### is_number -/
def spNum (K : PySem.W.Frag) : Sp := fun vs H Q _ => ∃ v d, vs = [v] ∧ Dp K H v d ∧ Q (.bl (isN d)) H
theorem isN_and (d : PyData) : (isI d && !isB d) = isN d := by cases d <;> rfl
theorem scIsNumber : FnScope ["thing"] ["thing"] (defScope sIsNumber) := ⟨rfl, rfl, rfl, by decide +kernel, rfl, by decide +kernel, by decide +kernel⟩
theorem ok_is_number {k : Nat} (F : Fun K "is_number" "is_number" sIsNumber f fd) (B : B0 mg) : FnOk P w K mg base CX0 (k + 1) f fd ["thing"] (spNum K) := by
  refine F.ok scIsNumber (fun vs H Q E h => ?_) (fun cdv A outer s H vs Q E hr h => ?_)
  · obtain ⟨v, d, rfl, _⟩ := h; rfl
  obtain ⟨v, d, rfl, hd, q⟩ := h
  refine ⟨_, pss_one (ps_ret (pe_and (pe_callB call_isi (by rfl) B.isinstance PyProof.Rows.boot_isinstance (pa_cons (pv 0) (pa_cons (pe_int_ (by rfl) B.int) pa_nil)))
    (pe_one (pe_not (pe_callB call_isi (by rfl) B.isinstance PyProof.Rows.boot_isinstance (pa_cons (pv 0) (pa_cons (pe_bool_ (by rfl) B.bool) pa_nil))))))), ?_⟩
  refine ⟨v, rfl, v, _, _, _, _, rfl, .ty _, dp_ty hd, kit_ty (kit_int d), _, rfl, ?_⟩
  rw [← isN_and] at q
  cases e : isI d with
  | false => rw [e] at q; exact iteF q
  | true => rw [e] at q; exact iteT ⟨v, rfl, v, _, _, _, _, rfl, .ty _, dp_ty hd, kit_ty (kit_bool d), _, rfl, q⟩
theorem scIsInt : FnScope ["_law_matter"] ["_law_matter"] (defScope sIsInt) := ⟨rfl, rfl, rfl, by decide +kernel, rfl, by decide +kernel, by decide +kernel⟩
theorem ok_is_int {k : Nat} (F : Fun K "_law_is_int" "_law_is_int" sIsInt f fd) (B : B0 mg) : FnOk P w K mg base CX0 (k + 1) f fd ["_law_matter"] (spNum K) := by
  refine F.ok scIsInt (fun vs H Q E h => ?_) (fun cdv A outer s H vs Q E hr h => ?_)
  · obtain ⟨v, d, rfl, _⟩ := h; rfl
  obtain ⟨v, d, rfl, hd, q⟩ := h
  refine ⟨_, pss_one (ps_ret (pe_and (pe_callB call_isi (by rfl) B.isinstance PyProof.Rows.boot_isinstance (pa_cons (pv 0) (pa_cons (pe_int_ (by rfl) B.int) pa_nil)))
    (pe_one (pe_not (pe_callB call_isi (by rfl) B.isinstance PyProof.Rows.boot_isinstance (pa_cons (pv 0) (pa_cons (pe_bool_ (by rfl) B.bool) pa_nil))))))), ?_⟩
  refine ⟨v, rfl, v, _, _, _, _, rfl, .ty _, dp_ty hd, kit_ty (kit_int d), _, rfl, ?_⟩
  rw [← isN_and] at q
  cases e : isI d with
  | false => rw [e] at q; exact iteF q
  | true => rw [e] at q; exact iteT ⟨v, rfl, v, _, _, _, _, rfl, .ty _, dp_ty hd, kit_ty (kit_bool d), _, rfl, q⟩
/-! ### is_person -/
/-- one of so many people -/
def isP (n : Int) : PyData → Bool | .int i => decide (0 ≤ i) && decide (i < n) | _ => false
def spPerson (K : PySem.W.Frag) : Sp := fun vs H Q _ => ∃ v d n, vs = [v, .int n] ∧ Dp K H v d ∧ Q (.bl (isP n d)) H
theorem scIsPerson : FnScope ["thing", "people"] ["thing", "people"] (defScope sIsPerson) := ⟨rfl, rfl, rfl, by decide +kernel, rfl, by decide +kernel, by decide +kernel⟩
theorem ok_is_person {k : Nat} {g : Addr} {gd : FuncData} (F : Fun K "is_person" "is_person" sIsPerson f fd) (G : FnOk P w K mg base CX0 k g gd ["thing"] (spNum K)) (bG : Binds K gd ["thing"] []) (kG : PySem.W.keepIn K (.ref g) = true) (mG : mg "is_number" = some (.ref g)) :
    FnOk P w K mg base CX0 (k + 1) f fd ["thing", "people"] (spPerson K) := by
  refine F.ok scIsPerson (fun vs H Q E h => ?_) (fun cdv A outer s H vs Q E hr h => ?_)
  · obtain ⟨v, d, n, rfl, _⟩ := h; rfl
  obtain ⟨v, d, n, rfl, hd, q⟩ := h
  refine ⟨_, pss_one (ps_ret (pe_and (pe_call G hr (by rfl) mG kG bG .nil pass0 (pa_cons (pv 0) pa_nil)) (pe_one (pe_chain op_le op_lt pe_int (pv 0) (pv 1))))), ?_⟩
  refine ⟨v, rfl, v, d, rfl, hd, _, rfl, ?_⟩
  cases hd with
  | int i =>
    refine iteT ⟨_, rfl, 0, i, rfl, rfl, _, rfl, ?_⟩
    have q' : Q (.bl (decide (0 ≤ i) && decide (i < n))) H := q
    cases e : decide ((0 : Int) ≤ i) with
    | false => rw [e] at q'; exact iteF q'
    | true => rw [e] at q'; exact iteT ⟨_, rfl, i, n, rfl, rfl, q'⟩
  | non => exact iteF q
  | bl b => exact iteF q
  | str x => exact iteF q
  | lst _ _ => exact iteF q
  | tup _ _ => exact iteF q
end
end K01

set_option Elab.async false
set_option linter.all false
set_option maxRecDepth 100000
set_option maxHeartbeats 4000000
namespace K01
open PySem PySem.Spec PyProof.Rows L2 Hs Hm
/-! ### walks with an index -/
def allIx (p : Nat → PyData → Bool) (ds : List PyData) : Bool := (List.range ds.length).all fun i => p i (ds.getD i .none)
theorem allIx_true {p : Nat → PyData → Bool} {ds : List PyData} (h : ∀ i, i < ds.length → p i (ds.getD i .none) = true) : allIx p ds = true := by
  unfold allIx
  rw [List.all_eq_true]
  intro i hi
  exact h i (List.mem_range.mp hi)
theorem allIx_false {p : Nat → PyData → Bool} {ds : List PyData} {i : Nat} (hi : i < ds.length) (h : p i (ds.getD i .none) = false) : allIx p ds = false := by
  unfold allIx
  rw [List.all_eq_false]
  exact ⟨i, List.mem_range.mpr hi, by rw [h]; exact Bool.false_ne_true⟩
theorem allIx_iff {p : Nat → PyData → Bool} {ds : List PyData} : allIx p ds = true ↔ ∀ i, i < ds.length → p i (ds.getD i .none) = true := by
  refine ⟨fun h i hi => ?_, allIx_true⟩
  cases e : p i (ds.getD i .none) with
  | true => rfl
  | false => rw [allIx_false hi e] at h; cases h
theorem dpAll_len {K : PySem.W.Frag} {H : Hp} : ∀ {ds : List PyData} {xs : List V}, DpAll K H xs ds → xs.length = ds.length
  | [], _, h => by cases h; rfl
  | _ :: ds, _, h => by cases h with | cons _ r => rw [List.length_cons, List.length_cons, dpAll_len r]
theorem dpAll_get {K : PySem.W.Frag} {H : Hp} : ∀ {ds : List PyData} {xs : List V} {i : Nat} {x : V}, DpAll K H xs ds → xs[i]? = some x → Dp K H x (ds.getD i .none)
  | [], _, _, _, h, e => by cases h; simp at e
  | d :: ds, _, 0, x, h, e => by
    cases h with
    | cons q _ =>
      have z := Option.some.inj e
      subst z
      exact q
  | d :: ds, _, i + 1, x, h, e => by
    cases h with
    | cons _ r => exact dpAll_get (i := i) r e
/-- the i-th is an int that numbers another item -/
def okA (n : Nat) (i : Nat) : PyData → Bool
  | .int p => (decide (0 ≤ p) && decide (p < n)) && !decide (p = (i : Int))
  | _ => false
/-- the item that the i-th numbers is i -/
def okB (ds : List PyData) (i : Nat) : PyData → Bool
  | .int p => PyData.eqv (ds.getD p.toNat .none) (.int i)
  | _ => false
def pairedB (ds : List PyData) : Bool := allIx (fun i d => okA ds.length i d && okB ds i d) ds
theorem shaped_int (i : Int) : SeqAt.shaped (.int i) = true := rfl
theorem fine_get {ds : List PyData} (h : ∀ d ∈ ds, SeqAt.shaped d = true) (i : Nat) : SeqAt.shaped (ds.getD i .none) = true := by
  by_cases hi : i < ds.length
  · rw [List.getD_eq_getElem?_getD, List.getElem?_eq_getElem hi]
    exact h _ (List.getElem_mem hi)
  · rw [List.getD_eq_getElem?_getD, List.getElem?_eq_none (by omega)]
    rfl
section
variable {P : Program} {w : World} {K : PySem.W.Frag} {mg : Str → Option Value} {base : Heap} {f : Addr} {fd : FuncData}
/-! ### all_paired -/
def spAllPaired (K : PySem.W.Frag) : Sp := fun vs H Q _ => ∃ a xs ds, vs = [.ref a] ∧ SqT K H a xs ∧ DpAll K H xs ds ∧ (∀ d ∈ ds, SeqAt.shaped d = true) ∧ ∀ G, Same H G → Q (.bl (pairedB ds)) G
theorem scAllPaired : FnScope ["partners", "person", "partner"] ["partners"] (defScope sAllPaired) := ⟨rfl, rfl, rfl, by decide +kernel, rfl, by decide +kernel, by decide +kernel⟩
theorem ok_all_paired {k : Nat} {g : Addr} {gd : FuncData} (F : Fun K "all_paired" "all_paired" sAllPaired f fd) (B : B0 mg) (G : FnOk P w K mg base CX0 k g gd ["thing", "people"] (spPerson K)) (bG : Binds K gd ["thing", "people"] []) (kG : PySem.W.keepIn K (.ref g) = true) (mG : mg "is_person" = some (.ref g)) :
    FnOk P w K mg base CX0 (k + 1) f fd ["partners"] (spAllPaired K) := by
  refine F.ok scAllPaired (fun vs H Q E h => ?_) (fun cdv A outer s H vs Q E hr h => ?_)
  · obtain ⟨a, xs, ds, rfl, _⟩ := h; rfl
  obtain ⟨a, xs, ds, rfl, hT, hD, fine, q⟩ := h
  have hlen := dpAll_len hD
  refine ⟨_, pss_cons (ps_for PassesOwn.never rfl (pi_enT (by rfl) B.enumerate (pa_cons (pv 0) pa_nil))
      (pg_tup rfl (pgs_cons (pg_name (i := 1) scAllPaired.nd rfl (.inl rfl)) (pgs_cons (pg_name (i := 2) scAllPaired.nd rfl (.inl rfl)) pgs_nil)))
    (pss_cons (ps_if (pt_not (pt_val (pe_call G hr (by rfl) mG kG bG .nil pass0 (pa_cons (pv 2) (pa_cons (pe_callB call_len_seq (by rfl) B.len PySem.boot_len (pa_cons (pv 0) pa_nil)) pa_nil))))) (pss_one (ps_ret pe_bl)) pss_nil)
    (pss_one (ps_if (PW.pt (pw_or (pt_cmpR op_eq (pv 2) (pv 1) (nomark _)) (pw_or1 (pt_cmpR (op_neD hr.units) (pe_ix ix_tup (pv 0) (pv 2) (fun _ _ => rfl)) (pv 1) (nomark _))))) (pss_one (ps_ret pe_bl)) pss_nil))))
    (pss_one (ps_ret pe_bl)), ?_⟩
  refine ⟨.ref a, rfl, a, xs, rfl, hT, for_it (walk_enT (xs := xs)) (fun i σ G => (∃ y1 y2, σ = [some (.ref a), y1, y2]) ∧ Same H G ∧ ∀ j, j < i → (okA ds.length j (ds.getD j .none) && okB ds j (ds.getD j .none)) = true)
    ⟨⟨none, none, rfl⟩, Same.refl _, fun j hj => absurd hj (Nat.not_lt_zero _)⟩ (fun i σ G _ p => same_tup p.2.1 hT) (fun i x σ G G' hi p y => ?_) (fun σ G p => ?_)⟩
  · obtain ⟨⟨y1, y2, rfl⟩, sm, hok⟩ := p
    obtain ⟨T, x1, x2, rfl, nT, rfl, e1, e2⟩ := y
    have e1' : x1 = .int (i : Nat) := (Option.some.inj e1).symm
    subst e1'
    have sm2 : Same H (upd G T (.tup [.int (i : Nat), x2])) := sm.trans (same_new nT)
    have hdx : Dp K (upd G T (.tup [.int (i : Nat), x2])) x2 (ds.getD i .none) := same_dp sm2 (dpAll_get hD e2)
    have hT2 := same_tup sm2 hT
    have hi' : i < ds.length := by omega
    refine ⟨T, _, rfl, SqT.of upd_same, rfl, _, _, rfl, _, _, rfl, rfl, ?_⟩
    refine ⟨x2, rfl, .ref a, rfl, a, xs, rfl, .inr hT2, x2, _, _, rfl, hdx, _, rfl, ?_⟩
    have bad : (okA ds.length i (ds.getD i .none) && okB ds i (ds.getD i .none)) = false → Q (.bl false) (upd G T (.tup [.int (i : Nat), x2])) := fun z => by
      have := q _ sm2
      rw [pairedB, allIx_false hi' z] at this
      exact this
    generalize ed : ds.getD i .none = d at hdx bad
    cases hdx with
    | int p =>
      have wl : ((xs.length : Nat) : Int) = ((ds.length : Nat) : Int) := by rw [hlen]
      show if (!(decide (0 ≤ p) && decide (p < ((xs.length : Nat) : Int)))) = true then _ else _
      rw [wl]
      cases c1 : (decide (0 ≤ p) && decide (p < ((ds.length : Nat) : Int))) with
      | false =>
        refine iteT ?_
        exact bad (by show ((decide (0 ≤ p) && decide (p < ((ds.length : Nat) : Int))) && _ && _) = false; rw [c1]; rfl)
      | true =>
        refine iteF ?_
        obtain ⟨p0, p1⟩ := Bool.and_eq_true_iff.mp c1
        have p0' : 0 ≤ p := of_decide_eq_true p0
        have p1' : p < ((ds.length : Nat) : Int) := of_decide_eq_true p1
        refine ⟨_, rfl, _, rfl, rfl, _, rfl, ?_⟩
        by_cases c2 : p = (i : Int)
        · rw [decide_eq_true (congrArg V.int c2)]
          refine iteT (iteT ?_)
          exact bad (by show ((_ && !decide (p = (i : Int))) && _) = false; rw [decide_eq_true c2]; simp)
        · rw [decide_eq_false (fun z => c2 (V.int.inj z))]
          have hp : p.toNat < xs.length := by omega
          have hx : xs[p.toNat]? = some xs[p.toNat] := List.getElem?_eq_getElem hp
          have hat : atI xs p = some xs[p.toNat] := by
            have z := atI_nat hx
            rwa [show ((p.toNat : Nat) : Int) = p by omega] at z
          refine iteF ⟨_, rfl, _, rfl, a, xs, p, _, rfl, rfl, hT2, hat, _, rfl, _, .int (i : Nat), same_dp sm2 (dpAll_get hD hx), .int _, fine_get fine _, rfl, _, rfl, ?_⟩
          cases c3 : PyData.eqv (ds.getD p.toNat .none) (.int (i : Nat)) with
          | false =>
            refine iteT ?_
            exact bad (by show (_ && PyData.eqv (ds.getD p.toNat .none) (.int (i : Nat))) = false; rw [c3]; simp)
          | true =>
            refine iteF ⟨⟨_, _, rfl⟩, sm2, fun j hj => ?_⟩
            by_cases hji : j < i
            · exact hok j hji
            · have : j = i := by omega
              subst this
              rw [ed]
              show ((decide (0 ≤ p) && decide (p < ((ds.length : Nat) : Int))) && !decide (p = (j : Int)) && PyData.eqv (ds.getD p.toNat .none) (.int (j : Nat))) = true
              rw [c1, c3, decide_eq_false c2]; rfl
    | non => exact iteT (bad rfl)
    | bl b => exact iteT (bad rfl)
    | str x => exact iteT (bad rfl)
    | lst _ _ => exact iteT (bad rfl)
    | tup _ _ => exact iteT (bad rfl)
  · obtain ⟨⟨y1, y2, rfl⟩, sm, hok⟩ := p
    have := q G sm
    rw [pairedB, allIx_true (fun j hj => hok j (by omega))] at this
    exact this
end
end K01

set_option Elab.async false
set_option linter.all false
set_option maxRecDepth 100000
set_option maxHeartbeats 4000000
namespace K01
open PySem PySem.Spec PyProof.Rows L2 Hs Hm
theorem sizeBig {n : Nat} (h : n ≤ 1000) : n ≤ sizeLine := Nat.le_of_lt (small1000 h)
/-- the partner of i, as the data say it -/
def mOf (ds : List PyData) (i : Nat) : Nat := match ds.getD i .none with | .int p => p.toNat | _ => 0
theorem paired_prd {ds : List PyData} (h : pairedB ds = true) : (∀ i, i < ds.length → ds.getD i .none = .int (mOf ds i)) ∧ Prd ds.length (mOf ds) := by
  have h1 := allIx_iff.mp h
  have hint : ∀ i, i < ds.length → ds.getD i .none = .int (mOf ds i) ∧ mOf ds i < ds.length ∧ mOf ds i ≠ i ∧ PyData.eqv (ds.getD (mOf ds i) .none) (.int i) = true := by
    intro i hi
    have q := h1 i hi
    unfold mOf
    generalize e : ds.getD i .none = d at q
    cases d with
    | int p =>
      have q' : ((decide (0 ≤ p) && decide (p < ((ds.length : Nat) : Int))) && !decide (p = (i : Int)) && PyData.eqv (ds.getD p.toNat .none) (.int i)) = true := q
      simp only [Bool.and_eq_true, decide_eq_true_eq, Bool.not_eq_true', decide_eq_false_iff_not] at q'
      obtain ⟨⟨⟨a1, a2⟩, a3⟩, a4⟩ := q'
      refine ⟨?_, ?_, ?_, a4⟩
      · show PyData.int p = PyData.int ((p.toNat : Nat) : Int)
        rw [Int.toNat_of_nonneg a1]
      · show p.toNat < ds.length
        omega
      · show p.toNat ≠ i
        omega
    | none => cases q
    | bool b => cases q
    | str s => cases q
    | list xs => cases q
    | tuple xs => cases q
    | dict kvs => cases q
  refine ⟨fun i hi => (hint i hi).1, fun i hi => ?_⟩
  obtain ⟨_, b1, b2, b3⟩ := hint i hi
  refine ⟨b1, b2, ?_⟩
  rw [(hint _ b1).1] at b3
  have : (((mOf ds (mOf ds i)) : Nat) : Int) = (i : Int) := by
    have z : ((((mOf ds (mOf ds i)) : Nat) : Int) == (i : Int)) = true := b3
    exact eq_of_beq z
  omega
section
variable {P : Program} {w : World} {K : PySem.W.Frag} {mg : Str → Option Value} {base : Heap} {f : Addr} {fd : FuncData}
/-! ### some_cross -/
def rowV (n : Nat) (m : Nat → Nat) : List V := (List.range n).map fun i => V.int (m i)
theorem rowV_len (n : Nat) (m : Nat → Nat) : (rowV n m).length = n := by unfold rowV; rw [List.length_map, List.length_range]
theorem rowV_get {n : Nat} {m : Nat → Nat} {i : Nat} {x : V} (h : (rowV n m)[i]? = some x) : i < n ∧ x = .int (m i) := by
  unfold rowV at h
  rw [List.getElem?_map] at h
  by_cases hi : i < n
  · rw [List.getElem?_range hi] at h
    exact ⟨hi, (Option.some.inj h).symm⟩
  · rw [List.getElem?_eq_none (by rw [List.length_range]; omega)] at h; cases h
/-- a list or a tuple -/
def SqA (K : PySem.W.Frag) (H : Hp) (a : Addr) (xs : List V) : Prop := SqT K H a xs ∨ SqL K H a xs
theorem same_sqA {H G : Hp} {a : Addr} {xs : List V} (e : Same H G) (h : SqA K H a xs) : SqA K G a xs := h.imp (same_tup e) e.seq
/-- a list that is new in H may grow -/
theorem same_grow {H G : Hp} {D : Addr} {o : HO} (nD : H D = none) (sm : Same H G) : Same H (upd G D o) := fun b z e => by rw [upd_ne (ne_of_none e nD)]; exact sm b z e
def spSomeCross (K : PySem.W.Frag) : Sp := fun vs H Q _ => ∃ a n m, vs = [.ref a] ∧ SqA K H a (rowV n m) ∧ Ivo n m ∧ n ≤ 1000 ∧ ∀ b G, Same H G → (b = true ↔ Crs n m) → Q (.bl b) G
abbrev nSomeCross : List Str := ["partners", "begun", "person", "partner"]
theorem scSomeCross : FnScope nSomeCross ["partners"] (defScope sSomeCross) := ⟨rfl, rfl, rfl, by decide +kernel, rfl, by decide +kernel, by decide +kernel⟩
theorem last_some {l : List V} {z : V} : (l ++ [z])[(l ++ [z]).length - 1]? = some z := by simp
theorem ok_some_cross {k : Nat} (F : Fun K "some_cross" "some_cross" sSomeCross f fd) (B : B0 mg) : FnOk P w K mg base CX0 (k + 1) f fd ["partners"] (spSomeCross K) := by
  refine F.ok scSomeCross (fun vs H Q E h => ?_) (fun cdv A outer s H vs Q E hr h => ?_)
  · obtain ⟨a, n, m, rfl, _⟩ := h; rfl
  obtain ⟨a, n, m, rfl, hT, hP, hn, q⟩ := h
  have hlen := rowV_len n m
  rcases hT with hT | hT
  · refine ⟨_, (pss_cons (ps_set (i := 1) scSomeCross.nd rfl (.inl rfl) (pe_lst pa_nil))
    (pss_cons (ps_for PassesOwn.never rfl (pi_enT (by rfl) B.enumerate (pa_cons (pv 0) pa_nil)) (pg_tup rfl (pgs_cons (pg_name (i := 2) scSomeCross.nd rfl (.inl rfl)) (pgs_cons (pg_name (i := 3) scSomeCross.nd rfl (.inl rfl)) pgs_nil))) (pss_one (ps_if (pt_cmpR op_lt (pv 2) (pv 3) (nomark _)) (pss_one (ps_expr (pe_bm PySem.F.plainAttrs_list PySem.F.slot_list_append PySem.F.type_list_append mt_append (pv 1) (pa_cons (pv 2) pa_nil)))) (pss_one (ps_if (PW.pt (pw_and (pt_cmpR op_gt (pv 2) (pv 3) (nomark _)) (pw_and1 (pt_cmpR op_ne (pe_bm0 PySem.F.plainAttrs_list PySem.F.slot_list_pop PySem.F.type_list_pop mt_pop (pv 1)) (pv 3) (nomark _))))) (pss_one (ps_ret pe_bl)) pss_nil)))))
    (pss_one (ps_ret pe_bl)))), ?_⟩
    refine ⟨Nat.zero_le _, fun o no => ?_⟩
    have s1 : Same H (upd H o (.lst [])) := same_new no
    refine ⟨.ref a, rfl, a, _, rfl, same_tup s1 hT, for_it (walk_enT (xs := rowV n m)) (fun i σ G => (∃ y1 y2, σ = [some (.ref a), some (.ref o), y1, y2]) ∧ Same H G ∧ G o = some (.lst ((stk m i).map fun j => V.int (j : Nat))) ∧ Clr n m i)
      ⟨⟨none, none, rfl⟩, s1, upd_same, clr_zero n m⟩ (fun i σ G _ p => same_tup p.2.1 hT) (fun i x σ G G' hi p y => ?_) (fun σ G p => ?_)⟩
    · obtain ⟨⟨y1, y2, rfl⟩, sm, ho, hc⟩ := p
      obtain ⟨T, x1, x2, rfl, nT, rfl, e1, e2⟩ := y
      have e1' : x1 = .int (i : Nat) := (Option.some.inj e1).symm
      subst e1'
      obtain ⟨hin, rfl⟩ := rowV_get e2
      have nTo : o ≠ T := ne_of_none ho nT
      have sm2 : Same H (upd G T (.tup [.int (i : Nat), .int (m i : Nat)])) := sm.trans (same_new nT)
      have ho2 : (upd G T (.tup [.int (i : Nat), .int (m i : Nat)])) o = some (.lst ((stk m i).map fun j => V.int (j : Nat))) := by rw [upd_ne nTo]; exact ho
      have keep : ∀ ys, Same H (upd (upd G T (.tup [.int (i : Nat), .int (m i : Nat)])) o (.lst ys)) := fun ys b z e => by
        rw [upd_ne (ne_of_none e no)]; exact sm2 b z e
      refine ⟨T, _, rfl, SqT.of upd_same, rfl, _, _, rfl, _, _, rfl, rfl, ?_⟩
      refine ⟨_, rfl, _, rfl, _, _, rfl, rfl, _, rfl, ite2 (fun c => ?_) (fun c => ?_)⟩
      · have c' : i < m i := by have := of_decide_eq_true c; omega
        refine ⟨.ref o, rfl, .inl ⟨rfl, _, SqL.of ho2⟩, _, rfl, o, _, _, rfl, rfl, ho2, ?_, ?_⟩
        · rw [List.length_map]
          exact small1000 (Nat.le_trans (stk_len m i) (by omega))
        · refine ⟨⟨_, _, rfl⟩, keep _, ?_, clr_push hP hin c' hc⟩
          rw [upd_same, stk_push hP hin c', List.map_append]; rfl
      · have c1 : ¬ i < m i := fun z => c (decide_eq_true (by omega))
        refine ⟨_, rfl, _, rfl, _, _, rfl, rfl, _, rfl, ?_⟩
        by_cases c2 : m i < i
        · rw [decide_eq_true (show ((m i : Nat) : Int) < ((i : Nat) : Int) by omega)]
          obtain ⟨l, z, ez, far, near⟩ := stk_pop hP hin c2
          rw [ez, List.map_append] at ho2
          refine iteT ⟨.ref o, rfl, .inl ⟨rfl, _, SqL.of ho2⟩, o, _, _, rfl, rfl, ho2, last_some, _, rfl, rfl, _, rfl, ?_⟩
          by_cases cz : z = m i
          · rw [decide_eq_true (show V.int (z : Nat) = V.int (m i : Nat) by rw [cz])]
            obtain ⟨n1, n2⟩ := near cz
            refine iteF ⟨⟨_, _, rfl⟩, keep _, ?_, n2 hc⟩
            rw [upd_same, n1]
            simp
          · rw [decide_eq_false (show ¬ V.int (z : Nat) = V.int (m i : Nat) from fun y => cz (by have := V.int.inj y; omega))]
            refine iteT ?_
            exact q true _ (keep _) ⟨fun _ => far cz, fun _ => rfl⟩
        · rw [decide_eq_false (show ¬ ((m i : Nat) : Int) < ((i : Nat) : Int) by omega)]
          have c3 : m i = i := by omega
          refine iteF (iteF ⟨⟨_, _, rfl⟩, sm2, ?_, clr_own hP hin c3 hc⟩)
          rw [stk_own hP hin c3]; exact ho2
    · obtain ⟨⟨y1, y2, rfl⟩, sm, ho, hc⟩ := p
      rw [hlen] at hc
      exact q false G sm ⟨fun z => Bool.noConfusion z, fun z => absurd z (clr_end hc)⟩
  · refine ⟨_, (pss_cons (ps_set (i := 1) scSomeCross.nd rfl (.inl rfl) (pe_lst pa_nil))
    (pss_cons (ps_for PassesOwn.never rfl (pi_enum (by rfl) B.enumerate (pa_cons (pv 0) pa_nil)) (pg_tup rfl (pgs_cons (pg_name (i := 2) scSomeCross.nd rfl (.inl rfl)) (pgs_cons (pg_name (i := 3) scSomeCross.nd rfl (.inl rfl)) pgs_nil))) (pss_one (ps_if (pt_cmpR op_lt (pv 2) (pv 3) (nomark _)) (pss_one (ps_expr (pe_bm PySem.F.plainAttrs_list PySem.F.slot_list_append PySem.F.type_list_append mt_append (pv 1) (pa_cons (pv 2) pa_nil)))) (pss_one (ps_if (PW.pt (pw_and (pt_cmpR op_gt (pv 2) (pv 3) (nomark _)) (pw_and1 (pt_cmpR op_ne (pe_bm0 PySem.F.plainAttrs_list PySem.F.slot_list_pop PySem.F.type_list_pop mt_pop (pv 1)) (pv 3) (nomark _))))) (pss_one (ps_ret pe_bl)) pss_nil)))))
    (pss_one (ps_ret pe_bl)))), ?_⟩
    refine ⟨Nat.zero_le _, fun o no => ?_⟩
    have s1 : Same H (upd H o (.lst [])) := same_new no
    refine ⟨.ref a, rfl, a, _, rfl, s1.seq hT, for_it (walk_enum (xs := rowV n m)) (fun i σ G => (∃ y1 y2, σ = [some (.ref a), some (.ref o), y1, y2]) ∧ Same H G ∧ G o = some (.lst ((stk m i).map fun j => V.int (j : Nat))) ∧ Clr n m i)
      ⟨⟨none, none, rfl⟩, s1, upd_same, clr_zero n m⟩ (fun i σ G _ p => p.2.1.seq hT) (fun i x σ G G' hi p y => ?_) (fun σ G p => ?_)⟩
    · obtain ⟨⟨y1, y2, rfl⟩, sm, ho, hc⟩ := p
      obtain ⟨T, x1, x2, rfl, nT, rfl, e1, e2⟩ := y
      have e1' : x1 = .int (i : Nat) := (Option.some.inj e1).symm
      subst e1'
      obtain ⟨hin, rfl⟩ := rowV_get e2
      have nTo : o ≠ T := ne_of_none ho nT
      have sm2 : Same H (upd G T (.tup [.int (i : Nat), .int (m i : Nat)])) := sm.trans (same_new nT)
      have ho2 : (upd G T (.tup [.int (i : Nat), .int (m i : Nat)])) o = some (.lst ((stk m i).map fun j => V.int (j : Nat))) := by rw [upd_ne nTo]; exact ho
      have keep : ∀ ys, Same H (upd (upd G T (.tup [.int (i : Nat), .int (m i : Nat)])) o (.lst ys)) := fun ys b z e => by
        rw [upd_ne (ne_of_none e no)]; exact sm2 b z e
      refine ⟨T, _, rfl, SqT.of upd_same, rfl, _, _, rfl, _, _, rfl, rfl, ?_⟩
      refine ⟨_, rfl, _, rfl, _, _, rfl, rfl, _, rfl, ite2 (fun c => ?_) (fun c => ?_)⟩
      · have c' : i < m i := by have := of_decide_eq_true c; omega
        refine ⟨.ref o, rfl, .inl ⟨rfl, _, SqL.of ho2⟩, _, rfl, o, _, _, rfl, rfl, ho2, ?_, ?_⟩
        · rw [List.length_map]
          exact small1000 (Nat.le_trans (stk_len m i) (by omega))
        · refine ⟨⟨_, _, rfl⟩, keep _, ?_, clr_push hP hin c' hc⟩
          rw [upd_same, stk_push hP hin c', List.map_append]; rfl
      · have c1 : ¬ i < m i := fun z => c (decide_eq_true (by omega))
        refine ⟨_, rfl, _, rfl, _, _, rfl, rfl, _, rfl, ?_⟩
        by_cases c2 : m i < i
        · rw [decide_eq_true (show ((m i : Nat) : Int) < ((i : Nat) : Int) by omega)]
          obtain ⟨l, z, ez, far, near⟩ := stk_pop hP hin c2
          rw [ez, List.map_append] at ho2
          refine iteT ⟨.ref o, rfl, .inl ⟨rfl, _, SqL.of ho2⟩, o, _, _, rfl, rfl, ho2, last_some, _, rfl, rfl, _, rfl, ?_⟩
          by_cases cz : z = m i
          · rw [decide_eq_true (show V.int (z : Nat) = V.int (m i : Nat) by rw [cz])]
            obtain ⟨n1, n2⟩ := near cz
            refine iteF ⟨⟨_, _, rfl⟩, keep _, ?_, n2 hc⟩
            rw [upd_same, n1]
            simp
          · rw [decide_eq_false (show ¬ V.int (z : Nat) = V.int (m i : Nat) from fun y => cz (by have := V.int.inj y; omega))]
            refine iteT ?_
            exact q true _ (keep _) ⟨fun _ => far cz, fun _ => rfl⟩
        · rw [decide_eq_false (show ¬ ((m i : Nat) : Int) < ((i : Nat) : Int) by omega)]
          have c3 : m i = i := by omega
          refine iteF (iteF ⟨⟨_, _, rfl⟩, sm2, ?_, clr_own hP hin c3 hc⟩)
          rw [stk_own hP hin c3]; exact ho2
    · obtain ⟨⟨y1, y2, rfl⟩, sm, ho, hc⟩ := p
      rw [hlen] at hc
      exact q false G sm ⟨fun z => Bool.noConfusion z, fun z => absurd z (clr_end hc)⟩
/-! ### is_arrangement -/
/-- what an arrangement is -/
def Arr (d : PyData) : Prop := ∃ ds, d = .tuple ds ∧ pairedB ds = true ∧ ¬ Crs ds.length (mOf ds)
def spIsArr (K : PySem.W.Frag) : Sp := fun vs H Q _ => ∃ v d, vs = [v] ∧ Dp K H v d ∧ (∀ ds, d = .tuple ds → (∀ e ∈ ds, SeqAt.shaped e = true) ∧ ds.length ≤ 1000) ∧ ∀ b G, Same H G → (b = true ↔ Arr d) → Q (.bl b) G
theorem scIsArr : FnScope ["thing"] ["thing"] (defScope sIsArr) := ⟨rfl, rfl, rfl, by decide +kernel, rfl, by decide +kernel, by decide +kernel⟩
theorem dpAll_row {K : PySem.W.Frag} {H : Hp} {xs : List V} {ds : List PyData} (hD : DpAll K H xs ds) {m : Nat → Nat} (h : ∀ i, i < ds.length → ds.getD i .none = .int (m i)) : xs = rowV ds.length m := by
  have hl := dpAll_len hD
  apply List.ext_getElem?
  intro i
  by_cases hi : i < xs.length
  · have hx := List.getElem?_eq_getElem hi
    have hd := dpAll_get hD hx
    rw [h i (by omega)] at hd
    rw [hx]
    unfold rowV
    rw [List.getElem?_map, List.getElem?_range (by omega)]
    cases e : xs[i] with
    | int j => rw [e] at hd; cases hd; rfl
    | non => rw [e] at hd; cases hd
    | bl b => rw [e] at hd; cases hd
    | str z => rw [e] at hd; cases hd
    | byt z => rw [e] at hd; cases hd
    | flt z => rw [e] at hd; cases hd
    | ref z => rw [e] at hd; cases hd
    | ty z => rw [e] at hd; cases hd
  · rw [List.getElem?_eq_none (by omega), List.getElem?_eq_none (by rw [rowV_len]; omega)]
theorem ok_is_arr {k : Nat} {g1 g2 : Addr} {gd1 gd2 : FuncData} (F : Fun K "is_arrangement" "is_arrangement" sIsArr f fd) (B : B0 mg)
    (G1 : FnOk P w K mg base CX0 k g1 gd1 ["partners"] (spAllPaired K)) (b1 : Binds K gd1 ["partners"] []) (k1 : PySem.W.keepIn K (.ref g1) = true) (m1 : mg "all_paired" = some (.ref g1))
    (G2 : FnOk P w K mg base CX0 k g2 gd2 ["partners"] (spSomeCross K)) (b2 : Binds K gd2 ["partners"] []) (k2 : PySem.W.keepIn K (.ref g2) = true) (m2 : mg "some_cross" = some (.ref g2)) :
    FnOk P w K mg base CX0 (k + 1) f fd ["thing"] (spIsArr K) := by
  refine F.ok scIsArr (fun vs H Q E h => ?_) (fun cdv A outer s H vs Q E hr h => ?_)
  · obtain ⟨v, d, rfl, _⟩ := h; rfl
  obtain ⟨v, d, rfl, hd, fine, q⟩ := h
  refine ⟨_, pss_cons (ps_if (pt_not (pt_val (pe_callB call_isi (by rfl) B.isinstance PyProof.Rows.boot_isinstance (pa_cons (pv 0) (pa_cons (pe_tuple_ (by rfl) B.tuple) pa_nil))))) (pss_one (ps_ret pe_bl)) pss_nil)
    (pss_one (ps_ret (pe_and (pe_call G1 hr (by rfl) m1 k1 b1 .nil pass0 (pa_cons (pv 0) pa_nil)) (pe_one (pe_not (pe_call G2 hr (by rfl) m2 k2 b2 .nil pass0 (pa_cons (pv 0) pa_nil))))))), ?_⟩
  refine ⟨v, rfl, v, _, _, _, _, rfl, .ty _, dp_ty hd, kit_ty (kit_tuple d), _, rfl, ?_⟩
  have no : (∀ ds, d ≠ .tuple ds) → Q (.bl false) H := fun z => q false H (Same.refl _) ⟨fun y => Bool.noConfusion y, fun ⟨ds, y, _⟩ => absurd y (z ds)⟩
  cases hd with
  | non => exact iteT (no fun _ z => nomatch z)
  | bl b => exact iteT (no fun _ z => nomatch z)
  | int i => exact iteT (no fun _ z => nomatch z)
  | str x => exact iteT (no fun _ z => nomatch z)
  | lst _ _ => exact iteT (no fun _ z => nomatch z)
  | @tup a xs ds hT hD =>
    obtain ⟨f1, f2⟩ := fine ds rfl
    refine iteF ⟨_, rfl, a, xs, ds, rfl, hT, hD, f1, fun G sm => ⟨_, rfl, ?_⟩⟩
    cases c : pairedB ds with
    | false => exact iteF (q false G sm ⟨fun y => Bool.noConfusion y, fun ⟨es, y, y2, _⟩ => by cases y; rw [c] at y2; cases y2⟩)
    | true =>
      obtain ⟨h1, h2⟩ := paired_prd c
      have hT2 : SqT K G a (rowV ds.length (mOf ds)) := by rw [← dpAll_row hD h1]; exact same_tup sm hT
      refine iteT ⟨_, rfl, a, _, _, rfl, .inl hT2, h2.ivo, f2, fun b G2 sm2 hb => ⟨_, rfl, q _ _ (sm.trans sm2) ?_⟩⟩
      cases b with
      | true => exact ⟨fun y => Bool.noConfusion y, fun ⟨es, y, y2, y3⟩ => by cases y; exact absurd (hb.mp rfl) y3⟩
      | false => exact ⟨fun _ => ⟨ds, rfl, c, fun y => Bool.noConfusion (hb.mpr y)⟩, fun _ => rfl⟩
end
end K01

set_option Elab.async false
set_option linter.all false
set_option maxRecDepth 100000
set_option maxHeartbeats 4000000
namespace K01
open PySem PySem.Spec PyProof.Rows L2 Hs Hm
theorem dpAll_snoc {K : PySem.W.Frag} {H : Hp} : ∀ {ds : List PyData} {xs : List V} {d : PyData} {x : V}, DpAll K H xs ds → Dp K H x d → DpAll K H (xs ++ [x]) (ds ++ [d])
  | [], _, _, _, h, q => by cases h; exact .cons q .nil
  | _ :: _, _, _, _, h, q => by cases h with | cons a b => exact .cons a (dpAll_snoc b q)
def pairD (p : Nat × Nat) : PyData := .tuple [.int (p.1 : Nat), .int (p.2 : Nat)]
section
variable {P : Program} {w : World} {K : PySem.W.Frag} {mg : Str → Option Value} {base : Heap} {f : Addr} {fd : FuncData}
def spArms (K : PySem.W.Frag) : Sp := fun vs H Q _ => ∃ a n m, vs = [.ref a] ∧ SqA K H a (rowV n m) ∧ n ≤ 1000 ∧ ∀ p ys G, Same H G → H p = none → G p = some (.lst ys) → DpAll K G ys ((armsN m n).map pairD) → Q (.ref p) G
/-- the heap without D -/
def hid (G : Hp) (D : Addr) : Hp := fun b => if b = D then none else G b
theorem hid_ne {G : Hp} {D b : Addr} (h : b ≠ D) : hid G D b = G b := if_neg h
theorem hid_at {G : Hp} {D : Addr} : hid G D D = none := if_pos rfl
theorem hid_same (G : Hp) (D : Addr) : Same (hid G D) G := fun b z e => by
  by_cases h : b = D
  · rw [h, hid_at] at e; cases e
  · rw [hid_ne h] at e; exact e
theorem hid_upd {G : Hp} {D : Addr} {o : HO} : hid (upd G D o) D = hid G D := by
  funext b
  by_cases h : b = D
  · rw [h, hid_at, hid_at]
  · rw [hid_ne h, hid_ne h, upd_ne h]
theorem hid_mono {G G' : Hp} {D : Addr} (e : Same G G') : Same (hid G D) (hid G' D) := fun b z q => by
  by_cases h : b = D
  · rw [h, hid_at] at q; cases q
  · rw [hid_ne h] at q ⊢; exact e b z q
theorem hid_id {G : Hp} {D : Addr} (h : G D = none) : hid G D = G := by
  funext b
  by_cases e : b = D
  · rw [e, hid_at, h]
  · exact hid_ne e
/-- what holds between two turns -/
def armsI (K : PySem.W.Frag) (H : Hp) (D : Addr) (m : Nat → Nat) (i : Nat) (G : Hp) : Prop := Same H G ∧ ∃ acc, G D = some (.lst acc) ∧ DpAll K (hid G D) acc ((armsN m i).map pairD)
theorem arms0 {H : Hp} {D : Addr} {m : Nat → Nat} (h : H D = none) : armsI K H D m 0 (upd H D (.lst [])) := ⟨same_new h, [], upd_same, .nil⟩
theorem armsE {H G : Hp} {D : Addr} {m : Nat → Nat} {n : Nat} {Q : VK} (h : armsI K H D m n G) (nD : H D = none) (q : ∀ p ys G, Same H G → H p = none → G p = some (.lst ys) → DpAll K G ys ((armsN m n).map pairD) → Q (.ref p) G) : Q (.ref D) G := by
  obtain ⟨sm, acc, e, hA⟩ := h
  exact q D acc G sm nD e (same_dps (hid_same G D) hA)
/-- the turn's reading, behind the pair's unpacking: the test, then the new tuple -/
theorem armsT {H G : Hp} {D T : Addr} {m : Nat → Nat} {i n : Nat} (nD : H D = none) (h : armsI K H D m i G) (nT : G T = none) (hi : i < n) (hn : n ≤ 1000) : armsI K H D m i (upd G T (.tup [.int (i : Nat), .int (m i : Nat)])) ∧
    (¬ i < m i → armsI K H D m (i + 1) (upd G T (.tup [.int (i : Nat), .int (m i : Nat)]))) ∧
    ∀ q, (upd G T (.tup [.int (i : Nat), .int (m i : Nat)])) q = none → i < m i → ∃ acc, (upd (upd G T (.tup [.int (i : Nat), .int (m i : Nat)])) q (.tup [.int (i : Nat), .int (m i : Nat)])) D = some (.lst acc) ∧ acc.length < sizeLine ∧
      armsI K H D m (i + 1) (upd (upd (upd G T (.tup [.int (i : Nat), .int (m i : Nat)])) q (.tup [.int (i : Nat), .int (m i : Nat)])) D (.lst (acc ++ [.ref q]))) := by
  obtain ⟨sm, acc, e, hA⟩ := h
  have nTD : D ≠ T := ne_of_none e nT
  have e2 : (upd G T (.tup [.int (i : Nat), .int (m i : Nat)])) D = some (.lst acc) := by rw [upd_ne nTD]; exact e
  have s2 : Same G (upd G T (.tup [.int (i : Nat), .int (m i : Nat)])) := same_new nT
  have hA2 := same_dps (hid_mono (D := D) s2) hA
  refine ⟨⟨sm.trans s2, acc, e2, hA2⟩, fun c => ⟨sm.trans s2, acc, e2, by rw [armsN_no c]; exact hA2⟩, fun q nq c => ?_⟩
  have nqD : D ≠ q := ne_of_none e2 nq
  have s3 : Same (upd G T (.tup [.int (i : Nat), .int (m i : Nat)])) (upd (upd G T (.tup [.int (i : Nat), .int (m i : Nat)])) q (.tup [.int (i : Nat), .int (m i : Nat)])) := same_new nq
  refine ⟨acc, by rw [upd_ne nqD]; exact e2, ?_, same_grow nD ((sm.trans s2).trans s3), _, upd_same, ?_⟩
  · have := dpAll_len hA
    rw [List.length_map] at this
    have l := armsN_len m i
    exact small1000 (by omega)
  · rw [hid_upd, armsN_yes c, List.map_append]
    refine dpAll_snoc (same_dps (hid_mono (D := D) s3) hA2) ?_
    refine .tup (xs := [.int (i : Nat), .int (m i : Nat)]) (SqT.of ?_) (.cons (.int _) (.cons (.int _) .nil))
    rw [hid_ne nqD.symm, upd_same]
theorem scArms : FnScope ["arrangement", "person", "partner"] ["arrangement"] (defScope sArms) := ⟨rfl, rfl, rfl, by decide +kernel, rfl, by decide +kernel, by decide +kernel⟩
theorem ok_arms {k : Nat} (F : Fun K "arms" "arms" sArms f fd) (B : B0 mg) : FnOk P w K mg base CX0 (k + 1) f fd ["arrangement"] (spArms K) := by
  refine F.ok scArms (fun vs H Q E h => ?_) (fun cdv A outer s H vs Q E hr h => ?_)
  · obtain ⟨a, n, m, rfl, _⟩ := h; rfl
  obtain ⟨a, n, m, rfl, hT, hn, q⟩ := h
  have turn : ∀ (D : Addr) (i : Nat) (x : V) (G G' : Hp), H D = none → i < n → armsI K H D m i G → YPair (fun i => some (.int (i : Nat))) (fun i => (rowV n m)[i]?) i G x G' → ∃ T, x = .ref T ∧ G T = none ∧ i < n ∧ G' = upd G T (.tup [.int (i : Nat), .int (m i : Nat)]) := by
    intro D i x G G' nD hi p y
    obtain ⟨T, x1, x2, rfl, nT, rfl, e1, e2⟩ := y
    have e1' : x1 = .int (i : Nat) := (Option.some.inj e1).symm
    subst e1'
    obtain ⟨_, rfl⟩ := rowV_get e2
    exact ⟨T, rfl, nT, hi, rfl⟩
  rcases hT with hT | hT
  · refine ⟨_, pss_one (ps_ret (pe_lc (own := [("person", 1), ("partner", 2)]) (g := gTup K 2 (gCons (gName 1) (gCons (gName 2) gNil))) (by rfl) scArms.nd (pi_enT (by rfl) B.enumerate (pa_cons (pv 0) pa_nil)) (blkOk_by (N := ["arrangement", "person", "partner"]) (sc := defScope sArms) (by decide +kernel))
      (fun _ _ _ _ _ => pg_tup rfl (pgs_cons (pg_name (i := 1) scArms.nd rfl (Or.inl rfl)) (pgs_cons (pg_name (i := 2) scArms.nd rfl (Or.inl rfl)) pgs_nil)))
      (fun _ _ _ _ _ => pts_one (pt_cmpR op_lt (pv 1) (pv 2) (nomark _))) (fun _ _ _ _ _ => pe_tup (pa_cons (pv 1) (pa_cons (pv 2) pa_nil))))), ?_⟩
    refine ⟨.ref a, rfl, a, _, rfl, hT, fun D nD => lc_it (walk_enT (xs := rowV n m)) (fun i G => armsI K H D m i G) (arms0 nD) (fun i G _ p => same_tup p.1 hT) (fun i x G G' hi p y => ?_) (fun G p => ?_)⟩
    · rw [rowV_len] at hi
      obtain ⟨T, rfl, nT, _, rfl⟩ := turn D i x G G' nD hi p y
      obtain ⟨a1, a2, a3⟩ := armsT nD p nT hi hn
      refine ⟨T, _, rfl, SqT.of upd_same, rfl, _, _, rfl, _, _, rfl, rfl, rfl, _, rfl, _, rfl, _, _, rfl, rfl, _, rfl, ite2 (fun c => ?_) (fun c => ?_)⟩
      · have c' : i < m i := by have := of_decide_eq_true c; omega
        exact ⟨_, rfl, _, rfl, (by show 2 ≤ sizeLine; decide), fun q nq => a3 q nq c'⟩
      · exact a2 fun z => c (decide_eq_true (by omega))
    · rw [rowV_len] at p
      exact armsE p nD q
  · refine ⟨_, pss_one (ps_ret (pe_lc (own := [("person", 1), ("partner", 2)]) (g := gTup K 2 (gCons (gName 1) (gCons (gName 2) gNil))) (by rfl) scArms.nd (pi_enum (by rfl) B.enumerate (pa_cons (pv 0) pa_nil)) (blkOk_by (N := ["arrangement", "person", "partner"]) (sc := defScope sArms) (by decide +kernel))
      (fun _ _ _ _ _ => pg_tup rfl (pgs_cons (pg_name (i := 1) scArms.nd rfl (Or.inl rfl)) (pgs_cons (pg_name (i := 2) scArms.nd rfl (Or.inl rfl)) pgs_nil)))
      (fun _ _ _ _ _ => pts_one (pt_cmpR op_lt (pv 1) (pv 2) (nomark _))) (fun _ _ _ _ _ => pe_tup (pa_cons (pv 1) (pa_cons (pv 2) pa_nil))))), ?_⟩
    refine ⟨.ref a, rfl, a, _, rfl, hT, fun D nD => lc_it (walk_enum (xs := rowV n m)) (fun i G => armsI K H D m i G) (arms0 nD) (fun i G _ p => p.1.seq hT) (fun i x G G' hi p y => ?_) (fun G p => ?_)⟩
    · rw [rowV_len] at hi
      obtain ⟨T, rfl, nT, _, rfl⟩ := turn D i x G G' nD hi p y
      obtain ⟨a1, a2, a3⟩ := armsT nD p nT hi hn
      refine ⟨T, _, rfl, SqT.of upd_same, rfl, _, _, rfl, _, _, rfl, rfl, rfl, _, rfl, _, rfl, _, _, rfl, rfl, _, rfl, ite2 (fun c => ?_) (fun c => ?_)⟩
      · have c' : i < m i := by have := of_decide_eq_true c; omega
        exact ⟨_, rfl, _, rfl, (by show 2 ≤ sizeLine; decide), fun q nq => a3 q nq c'⟩
      · exact a2 fun z => c (decide_eq_true (by omega))
    · rw [rowV_len] at p
      exact armsE p nD q
theorem scPairs : FnScope ["_law_hall_here", "_law_k", "_law_mate"] ["_law_hall_here"] (defScope sPairs) := ⟨rfl, rfl, rfl, by decide +kernel, rfl, by decide +kernel, by decide +kernel⟩
theorem ok_pairs {k : Nat} (F : Fun K "_law_pairs" "_law_pairs" sPairs f fd) (B : B0 mg) : FnOk P w K mg base CX0 (k + 1) f fd ["_law_hall_here"] (fun vs H Q E => ∃ a n m, vs = [.ref a] ∧ SqT K H a (rowV n m) ∧ n ≤ 1000 ∧ ∀ p ys G, Same H G → H p = none → G p = some (.lst ys) → DpAll K G ys ((armsN m n).map pairD) → Q (.ref p) G) := by
  refine F.ok scPairs (fun vs H Q E h => ?_) (fun cdv A outer s H vs Q E hr h => ?_)
  · obtain ⟨a, n, m, rfl, _⟩ := h; rfl
  obtain ⟨a, n, m, rfl, hT, hn, q⟩ := h
  refine ⟨_, pss_one (ps_ret (pe_lc (own := [("_law_k", 1), ("_law_mate", 2)]) (g := gTup K 2 (gCons (gName 1) (gCons (gName 2) gNil))) (by rfl) scPairs.nd (pi_enT (by rfl) B.enumerate (pa_cons (pv 0) pa_nil)) (blkOk_by (N := ["_law_hall_here", "_law_k", "_law_mate"]) (sc := defScope sPairs) (by decide +kernel))
      (fun _ _ _ _ _ => pg_tup rfl (pgs_cons (pg_name (i := 1) scPairs.nd rfl (Or.inl rfl)) (pgs_cons (pg_name (i := 2) scPairs.nd rfl (Or.inl rfl)) pgs_nil)))
      (fun _ _ _ _ _ => pts_one (pt_cmpR op_lt (pv 1) (pv 2) (nomark _))) (fun _ _ _ _ _ => pe_tup (pa_cons (pv 1) (pa_cons (pv 2) pa_nil))))), ?_⟩
  refine ⟨.ref a, rfl, a, _, rfl, hT, fun D nD => lc_it (walk_enT (xs := rowV n m)) (fun i G => armsI K H D m i G) (arms0 nD) (fun i G _ p => same_tup p.1 hT) (fun i x G G' hi p y => ?_) (fun G p => ?_)⟩
  · rw [rowV_len] at hi
    obtain ⟨T, x1, x2, rfl, nT, rfl, e1, e2⟩ := y
    have e1' : x1 = .int (i : Nat) := (Option.some.inj e1).symm
    subst e1'
    obtain ⟨_, rfl⟩ := rowV_get e2
    obtain ⟨a1, a2, a3⟩ := armsT nD p nT hi hn
    refine ⟨T, _, rfl, SqT.of upd_same, rfl, _, _, rfl, _, _, rfl, rfl, rfl, _, rfl, _, rfl, _, _, rfl, rfl, _, rfl, ite2 (fun c => ?_) (fun c => ?_)⟩
    · have c' : i < m i := by have := of_decide_eq_true c; omega
      exact ⟨_, rfl, _, rfl, (by show 2 ≤ sizeLine; decide), fun q nq => a3 q nq c'⟩
    · exact a2 fun z => c (decide_eq_true (by omega))
  · rw [rowV_len] at p
    exact armsE p nD q
end
end K01

set_option Elab.async false
set_option linter.all false
set_option maxRecDepth 100000
set_option maxHeartbeats 4000000
namespace K01
open PySem PySem.Spec PyProof.Rows L2 Hs Hm
theorem sorted2 {i j : Int} {ms : List Int} (hp : ms.Perm [i, j]) (hs : ms.Pairwise (· ≤ ·)) : ms = [if j < i then j else i, if i < j then j else i] := by
  have hl := hp.length_eq
  match ms, hl with
  | [x, y], _ =>
    have hx : x ∈ [i, j] := hp.subset (by simp)
    have hy : y ∈ [i, j] := hp.subset (by simp)
    have hi : i ∈ [x, y] := hp.symm.subset (by simp)
    have hj : j ∈ [x, y] := hp.symm.subset (by simp)
    have le : x ≤ y := by
      have := List.pairwise_cons.mp hs
      exact this.1 y (by simp)
    simp only [List.mem_cons, List.mem_nil_iff, or_false] at hx hy hi hj
    have e1 : x = if j < i then j else i := by split <;> omega
    have e2 : y = if i < j then j else i := by split <;> omega
    rw [e1, e2]
section
variable {P : Program} {w : World} {K : PySem.W.Frag} {mg : Str → Option Value} {base : Heap} {f : Addr} {fd : FuncData}
def spCross (K : PySem.W.Frag) : Sp := fun vs H Q _ => ∃ a b i j p q, vs = [.ref a, .ref b] ∧ SqA K H a [.int i, .int j] ∧ SqA K H b [.int p, .int q] ∧ ∀ G, Same H G → Q (.bl (crI i j p q)) G
theorem scCross : FnScope ["one", "other", "low", "high", "first", "second"] ["one", "other"] (defScope sCross) := ⟨rfl, rfl, rfl, by decide +kernel, rfl, by decide +kernel, by decide +kernel⟩
theorem cross_end {H : Hp} {Q : VK} {lo hi p q : Int} {b : Bool} (hb : b = ((decide (lo < p) && decide (p < hi)) != (decide (lo < q) && decide (q < hi)))) (h : Q (.bl b) H) : Q (.bl (!decide ((decide (lo < p) && decide (p < hi)) = (decide (lo < q) && decide (q < hi))))) H := by
  rw [hb] at h
  have e : (!decide ((decide (lo < p) && decide (p < hi)) = (decide (lo < q) && decide (q < hi)))) = ((decide (lo < p) && decide (p < hi)) != (decide (lo < q) && decide (q < hi))) := by
    cases (decide (lo < p) && decide (p < hi)) <;> cases (decide (lo < q) && decide (q < hi)) <;> rfl
  rw [e]; exact h
theorem ok_cross {k : Nat} (F : Fun K "cross" "cross" sCross f fd) (ms : mg "sorted" = none) : FnOk P w K mg base CX0 (k + 1) f fd ["one", "other"] (spCross K) := by
  refine F.ok scCross (fun vs H Q E h => ?_) (fun cdv A outer s H vs Q E hr h => ?_)
  · obtain ⟨a, b, i, j, p, q, rfl, _⟩ := h; rfl
  obtain ⟨a, b, i, j, p, q, rfl, hA, hB, done⟩ := h
  have rest : ∀ G, Same H G → ∀ lo hi : Int, lo = (if j < i then j else i) → hi = (if i < j then j else i) →
      tOp rNe (tChain (rI0 fun i j => .bl (decide (i < j))) (rI0 fun i j => .bl (decide (i < j))) (tVar 2) (tVar 4) (tVar 3)) (tChain (rI0 fun i j => .bl (decide (i < j))) (rI0 fun i j => .bl (decide (i < j))) (tVar 2) (tVar 5) (tVar 3)) [some (.ref a), some (.ref b), some (.int lo), some (.int hi), some (.int p), some (.int q)] G Q := by
    intro G sm lo hi e1 e2
    have z := done G sm
    unfold crI at z
    rw [← e1, ← e2] at z
    refine ⟨_, rfl, _, rfl, lo, p, rfl, rfl, _, rfl, ?_⟩
    have second : ∀ x : Bool, (x = (decide (lo < p) && decide (p < hi))) → tChain (rI0 fun i j => .bl (decide (i < j))) (rI0 fun i j => .bl (decide (i < j))) (tVar 2) (tVar 5) (tVar 3) [some (.ref a), some (.ref b), some (.int lo), some (.int hi), some (.int p), some (.int q)] G (fun y H2 => rNe (.bl x) y H2 Q) := by
      intro x ex
      refine ⟨_, rfl, _, rfl, lo, q, rfl, rfl, _, rfl, ?_⟩
      have fin : ∀ y : Bool, y = (decide (lo < q) && decide (q < hi)) → rNe (.bl x) (.bl y) G Q := by
        intro y ey
        refine ⟨rfl, ?_⟩
        rw [← ex, ← ey] at z
        cases x <;> cases y <;> exact z
      cases c : decide (lo < q) with
      | false => exact iteF (fin false (by rw [c]; rfl))
      | true => exact iteT ⟨_, rfl, q, hi, rfl, rfl, fin _ (by rw [c]; rfl)⟩
    cases c : decide (lo < p) with
    | false => exact iteF (second false (by rw [c]; rfl))
    | true => exact iteT ⟨_, rfl, p, hi, rfl, rfl, second _ (by rw [c]; rfl)⟩
  rcases hB with hB | hB
  · refine ⟨_, pss_cons (ps_asg (pe_callB cr_sortedA (by rfl) ms (by decide +kernel) (pa_cons (pv 0) pa_nil)) (pg_lst rfl (pgs_cons (pg_name (i := 2) scCross.nd rfl (.inl rfl)) (pgs_cons (pg_name (i := 3) scCross.nd rfl (.inl rfl)) pgs_nil))))
      (pss_cons (ps_asg (pv 1) (pg_tup rfl (pgs_cons (pg_name (i := 4) scCross.nd rfl (.inl rfl)) (pgs_cons (pg_name (i := 5) scCross.nd rfl (.inl rfl)) pgs_nil))))
      (pss_one (ps_ret (pe_cmpR op_ne (pe_chain op_lt op_lt (pv 2) (pv 4) (pv 3)) (pe_chain op_lt op_lt (pv 2) (pv 5) (pv 3)) (nomark _))))), ?_⟩
    refine ⟨_, rfl, a, [i, j], rfl, hA, by simp, fun ms' o hp hs no => ?_⟩
    rw [sorted2 hp hs]
    have sm : Same H (upd H o (.lst ([if j < i then j else i, if i < j then j else i].map V.int))) := same_new no
    refine ⟨o, _, rfl, SqL.of upd_same, rfl, _, _, rfl, _, _, rfl, rfl, _, rfl, b, _, rfl, same_tup sm hB, rfl, _, _, rfl, _, _, rfl, rfl, rest _ sm _ _ rfl rfl⟩
  · refine ⟨_, pss_cons (ps_asg (pe_callB cr_sortedA (by rfl) ms (by decide +kernel) (pa_cons (pv 0) pa_nil)) (pg_lst rfl (pgs_cons (pg_name (i := 2) scCross.nd rfl (.inl rfl)) (pgs_cons (pg_name (i := 3) scCross.nd rfl (.inl rfl)) pgs_nil))))
      (pss_cons (ps_asg (pv 1) (pg_lst rfl (pgs_cons (pg_name (i := 4) scCross.nd rfl (.inl rfl)) (pgs_cons (pg_name (i := 5) scCross.nd rfl (.inl rfl)) pgs_nil))))
      (pss_one (ps_ret (pe_cmpR op_ne (pe_chain op_lt op_lt (pv 2) (pv 4) (pv 3)) (pe_chain op_lt op_lt (pv 2) (pv 5) (pv 3)) (nomark _))))), ?_⟩
    refine ⟨_, rfl, a, [i, j], rfl, hA, by simp, fun ms' o hp hs no => ?_⟩
    rw [sorted2 hp hs]
    have sm : Same H (upd H o (.lst ([if j < i then j else i, if i < j then j else i].map V.int))) := same_new no
    refine ⟨o, _, rfl, SqL.of upd_same, rfl, _, _, rfl, _, _, rfl, rfl, _, rfl, b, _, rfl, sm.seq hB, rfl, _, _, rfl, _, _, rfl, rfl, rest _ sm _ _ rfl rfl⟩
/-! ### crossed -/
def spCrossed (K : PySem.W.Frag) : Sp := fun vs H Q _ => ∃ a b i j p q, vs = [.ref a, .ref b] ∧ SqT K H a [.int i, .int j] ∧ SqT K H b [.int p, .int q] ∧ Q (.bl (crI i j p q)) H
theorem scCrossed : FnScope ["_law_duo", "_law_its"] ["_law_duo", "_law_its"] (defScope sCrossed) := ⟨rfl, rfl, rfl, by decide +kernel, rfl, by decide +kernel, by decide +kernel⟩
theorem ok_crossed {k : Nat} (F : Fun K "_law_crossed" "_law_crossed" sCrossed f fd) (mn : mg "min" = none) (mx : mg "max" = none) : FnOk P w K mg base CX0 (k + 1) f fd ["_law_duo", "_law_its"] (spCrossed K) := by
  refine F.ok scCrossed (fun vs H Q E h => ?_) (fun cdv A outer s H vs Q E hr h => ?_)
  · obtain ⟨a, b, i, j, p, q, rfl, _⟩ := h; rfl
  obtain ⟨a, b, i, j, p, q, rfl, hA, hB, z⟩ := h
  refine ⟨_, pss_one (ps_ret (pe_cmpR op_ne
    (pe_chain op_lt op_lt (pe_callB (cr_min2T rfl hr.units) (by rfl) mn (by decide +kernel) (pa_cons (pv 0) pa_nil)) (pe_ix ix_tup (pv 1) pe_int (fun _ _ => rfl)) (pe_callB (cr_max2T rfl hr.units) (by rfl) mx (by decide +kernel) (pa_cons (pv 0) pa_nil)))
    (pe_chain op_lt op_lt (pe_callB (cr_min2T rfl hr.units) (by rfl) mn (by decide +kernel) (pa_cons (pv 0) pa_nil)) (pe_ix ix_tup (pv 1) pe_int (fun _ _ => rfl)) (pe_callB (cr_max2T rfl hr.units) (by rfl) mx (by decide +kernel) (pa_cons (pv 0) pa_nil))) (nomark _))), ?_⟩
  unfold crI at z
  have second : ∀ x : Bool, (x = (decide ((if j < i then j else i) < p) && decide (p < (if i < j then j else i)))) → ∀ y : Bool, (y = (decide ((if j < i then j else i) < q) && decide (q < (if i < j then j else i)))) → Q (.bl (!decide (V.bl x = V.bl y))) H := by
    intro x ex y ey
    rw [← ex, ← ey] at z
    cases x <;> cases y <;> exact z
  refine ⟨_, rfl, a, i, j, rfl, hA, _, rfl, b, _, 0, _, rfl, rfl, hB, rfl, _, p, rfl, rfl, _, rfl, ?_⟩
  cases c : decide ((if j < i then j else i) < p) with
  | false =>
    refine iteF ⟨_, rfl, a, i, j, rfl, hA, _, rfl, b, _, 1, _, rfl, rfl, hB, rfl, _, q, rfl, rfl, _, rfl, ?_⟩
    cases d : decide ((if j < i then j else i) < q) with
    | false => exact iteF ⟨rfl, second false (by rw [c]; rfl) false (by rw [d]; rfl)⟩
    | true => exact iteT ⟨_, rfl, a, i, j, rfl, hA, q, _, rfl, rfl, rfl, second false (by rw [c]; rfl) _ (by rw [d]; rfl)⟩
  | true =>
    refine iteT ⟨_, rfl, a, i, j, rfl, hA, p, _, rfl, rfl, ?_⟩
    refine ⟨_, rfl, a, i, j, rfl, hA, _, rfl, b, _, 1, _, rfl, rfl, hB, rfl, _, q, rfl, rfl, _, rfl, ?_⟩
    cases d : decide ((if j < i then j else i) < q) with
    | false => exact iteF ⟨rfl, second _ (by rw [c]; rfl) false (by rw [d]; rfl)⟩
    | true => exact iteT ⟨_, rfl, a, i, j, rfl, hA, q, _, rfl, rfl, rfl, second _ (by rw [c]; rfl) _ (by rw [d]; rfl)⟩
end
end K01

set_option Elab.async false
set_option linter.all false
set_option maxRecDepth 100000
set_option maxHeartbeats 4000000
namespace K01
open PySem PySem.Spec PyProof.Rows L2 Hs Hm
theorem cutV_take (xs : List V) (i : Nat) : cutV xs none (some (i : Int)) = xs.take i := by
  unfold cutV
  rw [HT.sIx_nat, HT.sIx_none, List.drop_zero, Nat.sub_zero]
  by_cases h : i ≤ xs.length
  · rw [Nat.min_eq_left h]
  · rw [Nat.min_eq_right (by omega), List.take_length, List.take_of_length_le (by omega)]
theorem dp_pair {K : PySem.W.Frag} {H : Hp} {v : V} {p : Nat × Nat} (h : Dp K H v (pairD p)) : ∃ t, v = .ref t ∧ SqT K H t [.int (p.1 : Nat), .int (p.2 : Nat)] := by
  unfold pairD at h
  cases h with
  | tup q r =>
    cases r with
    | cons a r =>
      cases r with
      | cons b r =>
        cases r
        cases a
        cases b
        exact ⟨_, rfl, q⟩
theorem getD_pairs {L : List (Nat × Nat)} {i : Nat} (h : i < L.length) : (L.map pairD).getD i .none = pairD (L.getD i (0, 0)) := by
  rw [List.getD_eq_getElem?_getD, List.getElem?_map, List.getD_eq_getElem?_getD, List.getElem?_eq_getElem h]; rfl
section
variable {P : Program} {w : World} {K : PySem.W.Frag} {mg : Str → Option Value} {base : Heap} {f : Addr} {fd : FuncData}
def spClear (K : PySem.W.Frag) : Sp := fun vs H Q _ => ∃ a xs L, vs = [.ref a] ∧ SqL K H a xs ∧ DpAll K H xs (L.map pairD) ∧ L.length ≤ 1000 ∧ ∀ b G, Same H G → (b = true ↔ NoX L) → Q (.bl b) G
theorem scClear : FnScope ["_law_duos", "_law_k", "_law_duo", "_law_its"] ["_law_duos"] (defScope sClear) := ⟨rfl, rfl, rfl, by decide +kernel, rfl, by decide +kernel, by decide +kernel⟩
theorem ok_clear {k : Nat} {g : Addr} {gd : FuncData} (F : Fun K "_law_clear" "_law_clear" sClear f fd) (B : B0 mg) (many : mg "any" = none)
    (C : FnOk P w K mg base CX0 k g gd ["_law_duo", "_law_its"] (spCrossed K)) (bC : Binds K gd ["_law_duo", "_law_its"] []) (kC : PySem.W.keepIn K (.ref g) = true) (mC : mg "_law_crossed" = some (.ref g)) :
    FnOk P w K mg base CX0 (k + 1) f fd ["_law_duos"] (spClear K) := by
  refine F.ok scClear (fun vs H Q E h => ?_) (fun cdv A outer s H vs Q E hr h => ?_)
  · obtain ⟨a, xs, L, rfl, _⟩ := h; rfl
  obtain ⟨a, xs, L, rfl, hL, hD, hn, q⟩ := h
  have hlen : xs.length = L.length := by rw [dpAll_len hD, List.length_map]
  refine ⟨_, pss_cons (ps_for PassesOwn.never rfl (pi_enum (by rfl) B.enumerate (pa_cons (pv 0) pa_nil))
      (pg_tup rfl (pgs_cons (pg_name (i := 1) scClear.nd rfl (.inl rfl)) (pgs_cons (pg_name (i := 2) scClear.nd rfl (.inr rfl)) pgs_nil)))
      (pss_one (ps_if (pt_val (pe_callB (cr_any rfl) (by rfl) many PyProof.Rows.boot_any (pa_cons (pe_lc (own := [("_law_its", 3)]) (g := gName 3) (tt := tYes) (te := tCall (spCrossed K) [] E0 (tCons (tVar 2) (tCons (tVar 3) tNil))) (by rfl) scClear.nd (pi_list (pe_slice sl_list (pv 0) po_none (po_some (pv 1))))
          (blkOk_by (N := ["_law_duos", "_law_k", "_law_duo", "_law_its"]) (sc := defScope sClear) (by decide +kernel)) (fun _ _ _ _ _ => pg_name (i := 3) scClear.nd rfl (Or.inl rfl)) (fun _ _ _ _ _ => pts_nil)
          (fun _ _ _ _ _ => pe_call C hr (by rfl) mC kC bC .nil pass0 (pa_cons (pv 2) (pa_cons (pv 3) pa_nil)))) pa_nil)))
        (pss_one (ps_ret pe_bl)) pss_nil)))
    (pss_one (ps_ret pe_bl)), ?_⟩
  refine ⟨.ref a, rfl, a, xs, rfl, hL, for_it (walk_enum (xs := xs)) (fun i σ G => (∃ y1 y2 y3, σ = [some (.ref a), y1, y2, y3]) ∧ Same H G ∧ ∀ i' j, j < i' → i' < i → cr2 (L.getD i' (0, 0)) (L.getD j (0, 0)) = false)
    ⟨⟨none, none, none, rfl⟩, Same.refl _, fun i' j _ h => absurd h (Nat.not_lt_zero _)⟩ (fun i σ G _ p => p.2.1.seq hL) (fun i x σ G G' hi p y => ?_) (fun σ G p => ?_)⟩
  · obtain ⟨⟨y1, y2, y3, rfl⟩, sm, hok⟩ := p
    obtain ⟨T, x1, x2, rfl, nT, rfl, e1, e2⟩ := y
    have e1' : x1 = .int (i : Nat) := (Option.some.inj e1).symm
    subst e1'
    have hi' : i < L.length := by omega
    have sm2 : Same H (upd G T (.tup [.int (i : Nat), x2])) := sm.trans (same_new nT)
    have hx2 := dpAll_get hD e2
    rw [getD_pairs hi'] at hx2
    obtain ⟨t2, rfl, ht2⟩ := dp_pair hx2
    refine ⟨T, _, rfl, SqT.of upd_same, rfl, _, _, rfl, _, _, rfl, rfl, ?_⟩
    -- duos[:k]
    refine ⟨.ref a, rfl, _, rfl, (i : Int), rfl, a, xs, rfl, sm2.seq hL, fun c nc => ?_⟩
    rw [cutV_take]
    have sm3 : Same H (upd (upd G T (.tup [.int (i : Nat), .ref t2])) c (.lst (xs.take i))) := sm2.trans (same_new nc)
    refine ⟨c, rfl, ⟨_, SqL.of upd_same⟩, fun D nD => ?_⟩
    refine lc_it (walk_list (xs := xs.take i)) (fun j G1 => Same (upd (upd G T (.tup [.int (i : Nat), .ref t2])) c (.lst (xs.take i))) G1 ∧ G1 D = some (.lst (((List.range j).map fun j => cr2 (L.getD i (0, 0)) (L.getD j (0, 0))).map V.bl)))
      ⟨same_new nD, upd_same⟩ (fun j G1 _ p => p.1.seq (SqL.of upd_same)) (fun j x G1 G2 hj p y => ?_) (fun G1 p => ?_)
    · obtain ⟨sm4, hD4⟩ := p
      obtain ⟨rfl, ex⟩ := y
      have hjt : j < i := by rw [List.length_take] at hj; omega
      rw [List.getElem?_take_of_lt hjt] at ex
      have hxj := dpAll_get hD ex
      rw [getD_pairs (by omega)] at hxj
      obtain ⟨tj, rfl, htj⟩ := dp_pair hxj
      have smA := sm3.trans sm4
      refine ⟨rfl, _, rfl, _, rfl, t2, tj, _, _, _, _, rfl, same_tup smA ht2, same_tup smA htj, _, hD4, ?_, ?_⟩
      · rw [List.length_map, List.length_map, List.length_range]
        exact small1000 (by omega)
      · refine ⟨fun b z e => ?_, ?_⟩
        · rw [upd_ne (ne_of_none e nD)]; exact sm4 b z e
        · rw [upd_same, List.range_succ, List.map_append, List.map_append]; rfl
    · obtain ⟨sm4, hD4⟩ := p
      rw [List.length_take] at hD4
      have hmin : min i xs.length = i := by omega
      rw [hmin] at hD4
      refine ⟨D, _, rfl, SqL.of hD4, _, rfl, ?_⟩
      cases c : ((List.range i).map fun j => cr2 (L.getD i (0, 0)) (L.getD j (0, 0))).any id with
      | true =>
        refine iteT (q false _ (sm3.trans sm4) ⟨fun z => Bool.noConfusion z, fun z => ?_⟩)
        obtain ⟨b, hb, hb2⟩ := List.any_eq_true.mp c
        obtain ⟨j, hj, rfl⟩ := List.mem_map.mp hb
        have := z i j (List.mem_range.mp hj) hi'
        rw [this] at hb2; exact hb2
      | false =>
        refine iteF ⟨⟨_, _, _, rfl⟩, sm3.trans sm4, fun i' j h1 h2 => ?_⟩
        by_cases h3 : i' < i
        · exact hok i' j h1 h3
        · have : i' = i := by omega
          subst this
          have z := List.any_eq_false.mp c _ (List.mem_map.mpr ⟨j, List.mem_range.mpr h1, rfl⟩)
          exact Bool.eq_false_iff.mpr z
  · obtain ⟨⟨y1, y2, y3, rfl⟩, sm, hok⟩ := p
    exact q true G sm ⟨fun _ i j h1 h2 => hok i j h1 (by omega), fun _ => rfl⟩
end
end K01

set_option Elab.async false
set_option linter.all false
set_option maxRecDepth 100000
set_option maxHeartbeats 4000000
namespace K01
open PySem PySem.Spec PyProof.Rows L2 Hs Hm
theorem pairedB_and (ds : List PyData) : pairedB ds = (allIx (okA ds.length) ds && allIx (okB ds) ds) := by
  rw [Bool.eq_iff_iff, Bool.and_eq_true, pairedB, allIx_iff, allIx_iff, allIx_iff]
  constructor
  · intro h
    exact ⟨fun i hi => (Bool.and_eq_true_iff.mp (h i hi)).1, fun i hi => (Bool.and_eq_true_iff.mp (h i hi)).2⟩
  · rintro ⟨h1, h2⟩ i hi
    rw [h1 i hi, h2 i hi]; rfl
section
variable {P : Program} {w : World} {K : PySem.W.Frag} {mg : Str → Option Value} {base : Heap} {f : Addr} {fd : FuncData}
def spPairs (K : PySem.W.Frag) : Sp := fun vs H Q _ => ∃ a n m, vs = [.ref a] ∧ SqT K H a (rowV n m) ∧ n ≤ 1000 ∧ ∀ p ys G, Same H G → H p = none → G p = some (.lst ys) → DpAll K G ys ((armsN m n).map pairD) → Q (.ref p) G
theorem scIsHall : FnScope ["_law_matter", "_law_k", "_law_mate"] ["_law_matter"] (defScope sIsHall) := ⟨rfl, rfl, rfl, by decide +kernel, rfl, by decide +kernel, by decide +kernel⟩
theorem ok_is_hall {k : Nat} {g1 g2 g3 : Addr} {gd1 gd2 gd3 : FuncData} (F : Fun K "_law_is_hall" "_law_is_hall" sIsHall f fd) (B : B0 mg)
    (G1 : FnOk P w K mg base CX0 k g1 gd1 ["_law_matter"] (spNum K)) (b1 : Binds K gd1 ["_law_matter"] []) (k1 : PySem.W.keepIn K (.ref g1) = true) (m1 : mg "_law_is_int" = some (.ref g1))
    (G2 : FnOk P w K mg base CX0 k g2 gd2 ["_law_hall_here"] (spPairs K)) (b2 : Binds K gd2 ["_law_hall_here"] []) (k2 : PySem.W.keepIn K (.ref g2) = true) (m2 : mg "_law_pairs" = some (.ref g2))
    (G3 : FnOk P w K mg base CX0 k g3 gd3 ["_law_duos"] (spClear K)) (b3 : Binds K gd3 ["_law_duos"] []) (k3 : PySem.W.keepIn K (.ref g3) = true) (m3 : mg "_law_clear" = some (.ref g3)) :
    FnOk P w K mg base CX0 (k + 1) f fd ["_law_matter"] (spIsArr K) := by
  refine F.ok scIsHall (fun vs H Q E h => ?_) (fun cdv A outer s H vs Q E hr h => ?_)
  · obtain ⟨v, d, rfl, _⟩ := h; rfl
  obtain ⟨v, d, rfl, hd, fine, q⟩ := h
  refine ⟨_, pss_cons (ps_if (pt_not (pt_val (pe_callB call_isi (by rfl) B.isinstance PyProof.Rows.boot_isinstance (pa_cons (pv 0) (pa_cons (pe_tuple_ (by rfl) B.tuple) pa_nil))))) (pss_one (ps_ret pe_bl)) pss_nil)
    (pss_cons (ps_for PassesOwn.never rfl (pi_enT (by rfl) B.enumerate (pa_cons (pv 0) pa_nil)) (pg_tup rfl (pgs_cons (pg_name (i := 1) scIsHall.nd rfl (.inl rfl)) (pgs_cons (pg_name (i := 2) scIsHall.nd rfl (.inl rfl)) pgs_nil)))
      (pss_one (ps_if (PW.pt (pw_or (pt_not (pt_val (pe_call G1 hr (by rfl) m1 k1 b1 .nil pass0 (pa_cons (pv 2) pa_nil)))) (pw_or (pt_not (pt_chain op_le op_lt pe_int (pv 2) (pe_callB call_len_seq (by rfl) B.len PySem.boot_len (pa_cons (pv 0) pa_nil)))) (pw_or1 (pt_cmpR op_eq (pv 2) (pv 1) (nomark _)))))) (pss_one (ps_ret pe_bl)) pss_nil)))
    (pss_cons (ps_if (pt_not (pt_val (pe_callB (cr_all rfl) (by rfl) B.all PyProof.Rows.boot_all (pa_cons (pe_lc (own := [("_law_k", 1), ("_law_mate", 2)]) (g := gTup K 2 (gCons (gName 1) (gCons (gName 2) gNil))) (tt := tYes) (te := tOp (rEqD K) (tOp (rIxT K) (tVar 0) (tVar 2)) (tVar 1)) (by rfl) scIsHall.nd (pi_enT (by rfl) B.enumerate (pa_cons (pv 0) pa_nil))
        (blkOk_by (N := ["_law_matter", "_law_k", "_law_mate"]) (sc := defScope sIsHall) (by decide +kernel)) (fun _ _ _ _ _ => pg_tup rfl (pgs_cons (pg_name (i := 1) scIsHall.nd rfl (Or.inl rfl)) (pgs_cons (pg_name (i := 2) scIsHall.nd rfl (Or.inl rfl)) pgs_nil)))
        (fun _ _ _ _ _ => pts_nil) (fun _ _ _ _ _ => pe_cmpR (op_eqD hr.units) (pe_ix ix_tup (pv 0) (pv 2) (fun _ _ => rfl)) (pv 1) (nomark _))) pa_nil)))) (pss_one (ps_ret pe_bl)) pss_nil)
    (pss_one (ps_ret (pe_call G3 hr (by rfl) m3 k3 b3 .nil pass0 (pa_cons (pe_call G2 hr (by rfl) m2 k2 b2 .nil pass0 (pa_cons (pv 0) pa_nil)) pa_nil)))))), ?_⟩
  refine ⟨v, rfl, v, _, _, _, _, rfl, .ty _, dp_ty hd, kit_ty (kit_tuple d), _, rfl, ?_⟩
  have no : (∀ ds, d ≠ .tuple ds) → Q (.bl false) H := fun z => q false H (Same.refl _) ⟨fun y => Bool.noConfusion y, fun ⟨ds, y, _⟩ => absurd y (z ds)⟩
  cases hd with
  | non => exact iteT (no fun _ z => nomatch z)
  | bl b => exact iteT (no fun _ z => nomatch z)
  | int i => exact iteT (no fun _ z => nomatch z)
  | str x => exact iteT (no fun _ z => nomatch z)
  | lst _ _ => exact iteT (no fun _ z => nomatch z)
  | @tup a xs ds hT hD =>
    obtain ⟨f1, f2⟩ := fine ds rfl
    have hlen := dpAll_len hD
    have out : pairedB ds = false → ∀ G, Same H G → Q (.bl false) G := fun z G sm => q false G sm ⟨fun y => Bool.noConfusion y, fun ⟨es, y, y2, _⟩ => by cases y; rw [z] at y2; cases y2⟩
    refine iteF ⟨_, rfl, a, xs, rfl, hT, for_it (walk_enT (xs := xs)) (fun i σ G => (∃ y1 y2, σ = [some (.ref a), y1, y2]) ∧ Same H G ∧ ∀ j, j < i → okA ds.length j (ds.getD j .none) = true)
      ⟨⟨none, none, rfl⟩, Same.refl _, fun j hj => absurd hj (Nat.not_lt_zero _)⟩ (fun i σ G _ p => same_tup p.2.1 hT) (fun i x σ G G' hi p y => ?_) (fun σ G p => ?_)⟩
    · obtain ⟨⟨y1, y2, rfl⟩, sm, hok⟩ := p
      obtain ⟨T, x1, x2, rfl, nT, rfl, e1, e2⟩ := y
      have e1' : x1 = .int (i : Nat) := (Option.some.inj e1).symm
      subst e1'
      have sm2 : Same H (upd G T (.tup [.int (i : Nat), x2])) := sm.trans (same_new nT)
      have hdx : Dp K (upd G T (.tup [.int (i : Nat), x2])) x2 (ds.getD i .none) := same_dp sm2 (dpAll_get hD e2)
      have hT2 := same_tup sm2 hT
      have hi' : i < ds.length := by omega
      refine ⟨T, _, rfl, SqT.of upd_same, rfl, _, _, rfl, _, _, rfl, rfl, ?_⟩
      refine ⟨x2, rfl, x2, _, rfl, hdx, _, rfl, ?_⟩
      have bad : okA ds.length i (ds.getD i .none) = false → Q (.bl false) (upd G T (.tup [.int (i : Nat), x2])) := fun z => out (by rw [pairedB_and, allIx_false hi' z]; rfl) _ sm2
      have good : okA ds.length i (ds.getD i .none) = true → ∀ j, j < i + 1 → okA ds.length j (ds.getD j .none) = true := fun z j hj => by
        by_cases hji : j < i
        · exact hok j hji
        · have : j = i := by omega
          subst this; exact z
      generalize ed : ds.getD i .none = d at hdx bad good
      cases hdx with
      | int p =>
        have wl : ((xs.length : Nat) : Int) = ((ds.length : Nat) : Int) := by rw [hlen]
        have two : (decide (0 ≤ p) && decide (p < ((ds.length : Nat) : Int))) = true → tOr (tTest (tOp rEq (tVar 2) (tVar 1))) (fun _ H Q => Q false H) [some (.ref a), some (.int (i : Nat)), some (.int p)] (upd G T (.tup [.int (i : Nat), .int p])) (fun c H1 => if c = true then Q (.bl false) H1 else (∃ y1 y2, [some (V.ref a), some (.int (i : Nat)), some (.int p)] = [some (V.ref a), y1, y2]) ∧ Same H H1 ∧ ∀ j, j < i + 1 → okA ds.length j (ds.getD j .none) = true) := by
          intro c1
          refine ⟨_, rfl, _, rfl, rfl, _, rfl, ?_⟩
          by_cases c2 : p = (i : Int)
          · rw [decide_eq_true (congrArg V.int c2)]
            exact iteT (iteT (bad (by show ((_ && !decide (p = (i : Int)))) = false; rw [decide_eq_true c2]; simp)))
          · rw [decide_eq_false (fun z => c2 (V.int.inj z))]
            exact iteF (iteF ⟨⟨_, _, rfl⟩, sm2, good (by show ((decide (0 ≤ p) && decide (p < ((ds.length : Nat) : Int))) && !decide (p = (i : Int))) = true; rw [c1, decide_eq_false c2]; rfl)⟩)
        refine iteF ⟨_, rfl, 0, p, rfl, rfl, _, rfl, ?_⟩
        cases c0 : decide ((0 : Int) ≤ p) with
        | false => exact iteF ⟨_, rfl, iteT (iteT (bad (by show ((decide (0 ≤ p) && _) && _) = false; rw [c0]; rfl)))⟩
        | true =>
          refine iteT ⟨_, rfl, a, xs, rfl, .inr hT2, p, _, rfl, rfl, _, rfl, ?_⟩
          rw [wl]
          cases c1 : decide (p < ((ds.length : Nat) : Int)) with
          | false => exact iteT (iteT (bad (by show ((decide (0 ≤ p) && decide (p < ((ds.length : Nat) : Int))) && _) = false; rw [c0, c1]; rfl)))
          | true => exact iteF (two (by rw [c0, c1]; rfl))
      | non => exact iteT (iteT (bad rfl))
      | bl b => exact iteT (iteT (bad rfl))
      | str x => exact iteT (iteT (bad rfl))
      | lst _ _ => exact iteT (iteT (bad rfl))
      | tup _ _ => exact iteT (iteT (bad rfl))
    · obtain ⟨⟨y1, y2, rfl⟩, sm, hok⟩ := p
      rw [hlen] at hok
      have hA : allIx (okA ds.length) ds = true := allIx_true hok
      refine ⟨_, rfl, a, xs, rfl, same_tup sm hT, fun D nD => lc_it (walk_enT (xs := xs)) (fun i G1 => Same G G1 ∧ G1 D = some (.lst (((List.range i).map fun j => okB ds j (ds.getD j .none)).map V.bl))) ⟨same_new nD, upd_same⟩ (fun i G1 _ p => same_tup (sm.trans p.1) hT) (fun i x G1 G2 hi p y => ?_) (fun G1 p => ?_)⟩
      · obtain ⟨sm1, hD1⟩ := p
        obtain ⟨T, x1, x2, rfl, nT, rfl, e1, e2⟩ := y
        have e1' : x1 = .int (i : Nat) := (Option.some.inj e1).symm
        subst e1'
        have nDT : D ≠ T := ne_of_none hD1 nT
        have sm2 : Same G (upd G1 T (.tup [.int (i : Nat), x2])) := sm1.trans (same_new nT)
        have hx2 := dpAll_get hD e2
        have okA_i := hok i (by omega)
        generalize ed : ds.getD i .none = d at hx2 okA_i
        cases hx2 with
        | int p =>
          have okA' : ((decide (0 ≤ p) && decide (p < ((ds.length : Nat) : Int))) && !decide (p = (i : Int))) = true := okA_i
          simp only [Bool.and_eq_true, decide_eq_true_eq] at okA'
          have hp : p.toNat < xs.length := by omega
          have hx : xs[p.toNat]? = some xs[p.toNat] := List.getElem?_eq_getElem hp
          have hat : atI xs p = some xs[p.toNat] := by
            have z := atI_nat hx
            rwa [show ((p.toNat : Nat) : Int) = p by omega] at z
          refine ⟨T, _, rfl, SqT.of upd_same, rfl, _, _, rfl, _, _, rfl, rfl, rfl, _, rfl, _, rfl, a, xs, p, _, rfl, rfl, same_tup (sm.trans sm2) hT, hat, _, rfl, _, .int (i : Nat), same_dp (sm.trans sm2) (dpAll_get hD hx), .int _, fine_get f1 _, rfl, _, (by rw [upd_ne nDT]; exact hD1), ?_, ?_⟩
          · rw [List.length_map, List.length_map, List.length_range]; exact small1000 (by omega)
          · refine ⟨fun b z e => by rw [upd_ne (ne_of_none e nD)]; exact sm2 b z e, ?_⟩
            rw [upd_same, List.range_succ, List.map_append, List.map_append]
            show some (HO.lst (_ ++ [V.bl (PyData.eqv (ds.getD p.toNat .none) (.int (i : Nat)))])) = some (HO.lst (_ ++ [V.bl (okB ds i (ds.getD i .none))]))
            rw [ed]; rfl
        | non => cases okA_i
        | bl b => cases okA_i
        | str x => cases okA_i
        | lst _ _ => cases okA_i
        | tup _ _ => cases okA_i
      · obtain ⟨sm1, hD1⟩ := p
        rw [hlen] at hD1
        have smA := sm.trans sm1
        refine ⟨D, _, rfl, SqL.of hD1, _, rfl, ?_⟩
        have eB : ((List.range ds.length).map fun j => okB ds j (ds.getD j .none)).all id = allIx (okB ds) ds := by
          unfold allIx; rw [List.all_map]; rfl
        rw [eB]
        cases hB : allIx (okB ds) ds with
        | false => exact iteT (out (by rw [pairedB_and, hB]; simp) G1 smA)
        | true =>
          have hPB : pairedB ds = true := by rw [pairedB_and, hA, hB]; rfl
          obtain ⟨h1, h2⟩ := paired_prd hPB
          have hT2 : SqT K G1 a (rowV ds.length (mOf ds)) := by rw [← dpAll_row hD h1]; exact same_tup smA hT
          refine iteF ⟨_, rfl, a, _, _, rfl, hT2, f2, fun p ys G2 sm2 np hp hys => ?_⟩
          refine ⟨p, ys, armsN (mOf ds) ds.length, rfl, SqL.of hp, hys, Nat.le_trans (armsN_len _ _) f2, fun b G3 sm3 hb => q b G3 (smA.trans (sm2.trans sm3)) ?_⟩
          rw [hb, nox_iff h2]
          exact ⟨fun z => ⟨ds, rfl, hPB, z⟩, fun ⟨es, y, y2, y3⟩ => by cases y; exact y3⟩
end
end K01

set_option Elab.async false
set_option linter.all false
set_option maxRecDepth 100000
set_option maxHeartbeats 4000000
namespace K01
open PySem PySem.Spec PyProof.Rows L2 Hs Hm
/-! ### the box of drawn numbers -/
def boxLine : Int := 1099511627776
/-- a box at b from which n more may be drawn -/
def BoxAt (H : Hp) (b : Addr) (n : Nat) : Prop := ∃ x y z : Int, H b = some (.lst [.int x, .int y, .int z]) ∧ 0 ≤ x ∧ 0 ≤ z ∧ z + n ≤ boxLine
/-- all but b stands as it stood -/
def Ap (b : Addr) (H G : Hp) : Prop := Same (hid H b) (hid G b)
theorem Ap.refl (b : Addr) (H : Hp) : Ap b H H := Same.refl _
theorem Ap.trans {b : Addr} {H G J : Hp} (h : Ap b H G) (k : Ap b G J) : Ap b H J := Same.trans h k
theorem ap_same {b : Addr} {H G : Hp} (h : Same H G) : Ap b H G := hid_mono h
theorem ap_upd {b : Addr} {H : Hp} {o : HO} : Ap b H (upd H b o) := fun a z e => by rw [hid_upd]; exact e
theorem BoxAt.mono {H : Hp} {b : Addr} {n m : Nat} (h : BoxAt H b n) (hm : m ≤ n) : BoxAt H b m := by
  obtain ⟨x, y, z, e, h1, h2, h3⟩ := h
  exact ⟨x, y, z, e, h1, h2, by omega⟩
theorem BoxAt.same {H G : Hp} {b : Addr} {n : Nat} (h : BoxAt H b n) (s : Same H G) : BoxAt G b n := by
  obtain ⟨x, y, z, e, h1, h2, h3⟩ := h
  exact ⟨x, y, z, s _ _ e, h1, h2, h3⟩
theorem BoxAt.some {H : Hp} {b : Addr} {n : Nat} (h : BoxAt H b n) : ∃ o, H b = some o := by
  obtain ⟨x, y, z, e, _⟩ := h
  exact ⟨_, e⟩
section
variable {P : Program} {w : World} {K : PySem.W.Frag} {mg : Str → Option Value} {base : Heap} {f : Addr} {fd : FuncData}
/-! ### cell_at -/
def spCell (K : PySem.W.Frag) : Sp := fun vs H Q _ => ∃ (a : Addr) (ns : List Int) (k : Int), vs = [.ref a, .int k] ∧ SqL K H a (ns.map V.int) ∧ 0 ≤ k ∧ ∀ c, Q (.int c) H
theorem scCellAt : FnScope ["_law_script", "_law_k"] ["_law_script", "_law_k"] (defScope sCellAt) := ⟨rfl, rfl, rfl, by decide +kernel, rfl, by decide +kernel, by decide +kernel⟩
theorem ok_cell_at {k : Nat} (F : Fun K "_law_cell_at" "_law_cell_at" sCellAt f fd) (B : B0 mg) : FnOk P w K mg base CX0 (k + 1) f fd ["_law_script", "_law_k"] (spCell K) := by
  refine F.ok scCellAt (fun vs H Q E h => ?_) (fun cdv A outer s H vs Q E hr h => ?_)
  · obtain ⟨a, ns, i, rfl, _⟩ := h; rfl
  obtain ⟨a, ns, i, rfl, hS, h0, q⟩ := h
  refine ⟨_, pss_cons (ps_if (pt_cmpR op_lt (pv 1) (pe_callB call_len_seq (by rfl) B.len PySem.boot_len (pa_cons (pv 0) pa_nil)) (nomark _)) (pss_one (ps_ret (pe_ix ix_list (pv 0) (pv 1) (fun _ _ => rfl)))) pss_nil) (pss_one (ps_ret pe_int)), ?_⟩
  refine ⟨_, rfl, _, rfl, a, _, rfl, .inl hS, _, _, rfl, rfl, _, rfl, ite2 (fun c => ?_) (fun c => q 0)⟩
  have c' : i < (((ns.map V.int).length : Nat) : Int) := of_decide_eq_true c
  rw [List.length_map] at c'
  have hi : i.toNat < ns.length := by omega
  have e : (ns.map V.int)[i.toNat]? = some (.int ns[i.toNat]) := by rw [List.getElem?_map, List.getElem?_eq_getElem hi]; rfl
  have z := atI_nat e
  rw [show ((i.toNat : Nat) : Int) = i by omega] at z
  exact ⟨_, rfl, _, rfl, a, _, i, _, rfl, rfl, hS, z, q _⟩
/-! ### box -/
def spBox (K : PySem.W.Frag) : Sp := fun vs H Q _ => ∃ (a : Addr) (ns : List Int) (k : Int), vs = [.ref a, .int k] ∧ SqL K H a (ns.map V.int) ∧ 0 ≤ k ∧ ∀ b x y, H b = none → 0 ≤ x → Q (.ref b) (upd H b (.lst [.int x, .int y, .int 0]))
theorem b01 (b : Bool) : (-(2 ^ 64) : Int) < (if b = true then 1 else 0) ∧ (if b = true then (1 : Int) else 0) < 2 ^ 64 := by cases b <;> decide
theorem mul01 {u : Int} (h : 0 ≤ u) (b : Bool) : 0 ≤ u * (if b = true then 1 else 0) := by
  cases b with
  | true => rw [if_pos rfl, Int.mul_one]; exact h
  | false => rw [if_neg Bool.false_ne_true, Int.mul_zero]; exact Int.le_refl 0
theorem scBox : FnScope ["_law_script", "_law_k", "_law_core"] ["_law_script", "_law_k"] (defScope sBox) := ⟨rfl, rfl, rfl, by decide +kernel, rfl, by decide +kernel, by decide +kernel⟩
theorem ok_box {k : Nat} {g : Addr} {gd : FuncData} (F : Fun K "_law_box" "_law_box" sBox f fd) (B : B0 mg) (G : FnOk P w K mg base CX0 k g gd ["_law_script", "_law_k"] (spCell K)) (bG : Binds K gd ["_law_script", "_law_k"] []) (kG : PySem.W.keepIn K (.ref g) = true) (mG : mg "_law_cell_at" = some (.ref g)) :
    FnOk P w K mg base CX0 (k + 1) f fd ["_law_script", "_law_k"] (spBox K) := by
  refine F.ok scBox (fun vs H Q E h => ?_) (fun cdv A outer s H vs Q E hr h => ?_)
  · obtain ⟨a, ns, i, rfl, _⟩ := h; rfl
  obtain ⟨a, ns, i, rfl, hS, h0, q⟩ := h
  refine ⟨_, pss_cons (ps_set (i := 2) scBox.nd rfl (.inl rfl) (pe_call G hr (by rfl) mG kG bG .nil pass0 (pa_cons (pv 0) (pa_cons (pv 1) pa_nil))))
    (pss_one (ps_ret (pe_lst (pa_cons (pe_op op_mul (pe_callB call_abs (by rfl) B.abs (by decide +kernel) (pa_cons (pv 2) pa_nil)) (pe_callTy call_int1 (by rfl) B.int PyProof.Rows.boot_int (pa_cons (pe_cmpR op_ge (pe_callB call_abs (by rfl) B.abs (by decide +kernel) (pa_cons (pv 2) pa_nil)) (pe_op op_pow pe_int pe_int) (nomark _)) pa_nil)))
      (pa_cons (pe_op op_add (pe_op op_add (pe_op op_mod (pv 2) pe_int) (pe_op op_mul pe_int (pv 1))) pe_int) (pa_cons pe_int pa_nil)))))), ?_⟩
  refine ⟨_, rfl, _, rfl, a, ns, i, rfl, hS, h0, fun c => ?_⟩
  refine ⟨_, rfl, c, rfl, _, rfl, c, rfl, 10, 18, rfl, rfl, ⟨by decide, by decide, by decide⟩, _, _, rfl, rfl, .inr ⟨_, rfl, ?_⟩⟩
  refine ⟨_, _, rfl, rfl, .inr (b01 _), _, rfl, _, _, rfl, rfl, (show (0 : Int) < 2305843009213693951 by decide), _, rfl, _, _, rfl, rfl, .inl ⟨by decide, by decide⟩, _, _, rfl, rfl, _, _, rfl, rfl, (by show 3 ≤ sizeLine; decide), fun b nb => q b _ _ nb ?_⟩
  exact mul01 (by split <;> omega) _
/-! ### take -/
def spTake (K : PySem.W.Frag) : Sp := fun vs H Q _ => ∃ b m n, vs = [.ref b, .int m] ∧ 0 < m ∧ m ≤ 10000000 ∧ BoxAt H b (n + 1) ∧ ∀ r G, 0 ≤ r → r < m → Ap b H G → BoxAt G b n → Q (.int r) G
theorem scTake : FnScope ["_law_box_here", "_law_below", "_law_found", "_law_once", "_law_twice"] ["_law_box_here", "_law_below"] (defScope sTake) := ⟨rfl, rfl, rfl, by decide +kernel, rfl, by decide +kernel, by decide +kernel⟩
def spNo : Sp := fun _ _ _ _ => False
theorem ok_no {ps : List Str} : FnOk P w K mg base CX0 0 f fd ps spNo := ⟨fun _ _ _ _ h => h.elim, fun _ _ _ _ _ _ _ _ _ _ _ _ _ h => h.elim⟩
theorem ok_take (F : Fun K "_law_take" "_law_take" sTake f fd) (bF : Binds K fd ["_law_box_here", "_law_below"] []) (mF : mg "_law_take" = some (.ref f)) : FnOk P w K mg base CX0 1 f fd ["_law_box_here", "_law_below"] (spTake K) := by
  have N : FnOk P w K mg base CX0 0 f fd ["_law_box_here", "_law_below"] spNo := ok_no
  refine F.ok scTake (fun vs H Q E h => ?_) (fun cdv A outer s H vs Q E hr h => ?_)
  · obtain ⟨b, m, n, rfl, _⟩ := h; rfl
  obtain ⟨b, m, n, rfl, m0, m1, ⟨x, y, z, hb, hx, hz, hn⟩, q⟩ := h
  refine ⟨_, pss_cons (ps_if (pt_cmpR op_gt (pe_ix ix_list (pv 0) pe_int (fun _ _ => rfl)) pe_int (nomark _))
      (pss_cons (ps_set (i := 2) scTake.nd rfl (.inl rfl) (pe_op op_mod (pe_ix ix_list (pv 0) pe_int (fun _ _ => rfl)) (pv 1)))
      (pss_cons (ps_asg (pe_op op_fdiv (pe_ix ix_list (pv 0) pe_int (fun _ _ => rfl)) (pv 1)) (pg_sub (pv 0) pe_int set_list))
      (pss_one (ps_ret (pv 2))))) pss_nil)
    (pss_cons (ps_if (pt_cmpR op_gt (pv 1) (pe_op op_pow pe_int pe_int) (nomark _))
      (pss_one (ps_ret (pe_op op_mod (pe_op op_add (pe_call N hr (by rfl) mF F.kp bF .nil pass0 (pa_cons (pv 0) (pa_cons (pe_op op_pow pe_int pe_int) pa_nil))) (pe_op op_mul (pe_op op_pow pe_int pe_int) (pe_call N hr (by rfl) mF F.kp bF .nil pass0 (pa_cons (pv 0) (pa_cons (pe_op op_add (pe_op op_fdiv (pv 1) (pe_op op_pow pe_int pe_int)) pe_int) pa_nil))))) (pv 1)))) pss_nil)
    (pss_cons (ps_asg (pe_op op_add (pe_ix ix_list (pv 0) pe_int (fun _ _ => rfl)) pe_int) (pg_sub (pv 0) pe_int set_list))
    (pss_cons (ps_set (i := 3) scTake.nd rfl (.inl rfl) (pe_op op_mod (pe_op op_mul (pe_op op_add (pe_ix ix_list (pv 0) pe_int (fun _ _ => rfl)) (pe_op op_mul pe_int (pe_ix ix_list (pv 0) pe_int (fun _ _ => rfl)))) (pe_op op_add pe_int (pe_ix ix_list (pv 0) pe_int (fun _ _ => rfl)))) pe_int))
    (pss_cons (ps_set (i := 4) scTake.nd rfl (.inl rfl) (pe_op op_mod (pe_op op_mul (pe_op op_add (pe_op op_add (pv 3) (pe_ix ix_list (pv 0) pe_int (fun _ _ => rfl))) (pe_op op_fdiv (pe_ix ix_list (pv 0) pe_int (fun _ _ => rfl)) pe_int)) (pe_op op_add (pe_op op_mod (pv 3) pe_int) pe_int)) pe_int))
    (pss_one (ps_ret (pe_op op_mod (pe_op op_fdiv (pe_op op_mod (pe_op op_add (pe_op op_mul (pv 4) pe_int) (pv 3)) pe_int) pe_int) (pv 1)))))))), ?_⟩
  have hL : SqL K H b [.int x, .int y, .int z] := SqL.of hb
  refine ⟨_, rfl, b, _, 0, _, rfl, rfl, hL, rfl, _, _, rfl, rfl, _, rfl, ite2 (fun c => ?_) (fun c => ?_)⟩
  · -- the great number is used up digit by digit
    refine ⟨_, rfl, b, _, 0, _, rfl, rfl, hL, rfl, _, rfl, _, _, rfl, rfl, m0, ?_⟩
    refine ⟨_, rfl, b, _, 0, _, rfl, rfl, hL, rfl, _, rfl, _, _, rfl, rfl, ⟨m0, by omega⟩, _, rfl, b, _, 0, 0, rfl, rfl, hb, rfl, ?_⟩
    refine ⟨_, rfl, q _ _ (Int.emod_nonneg _ (by omega)) (Int.emod_lt_of_pos _ m0) ap_upd ⟨x / m, y, z, upd_same, Int.ediv_nonneg hx (by omega), hz, by omega⟩⟩
  · refine ⟨_, rfl, 10, 7, rfl, rfl, ⟨by decide, by decide, by decide⟩, _, _, rfl, rfl, _, rfl, ?_⟩
    have small : ¬ (10 : Int) ^ (7 : Int).toNat < m := by
      have : (10 : Int) ^ (7 : Int).toNat = 10000000 := by decide
      omega
    rw [decide_eq_false small]
    refine iteF ⟨_, rfl, b, _, 2, _, rfl, rfl, hL, rfl, _, _, rfl, rfl, _, rfl, b, _, 2, 2, rfl, rfl, hb, rfl, ?_⟩
    have hb2 : (upd H b (.lst (([.int x, .int y, .int z] : List V).set 2 (.int (z + 1))))) b = some (.lst [.int x, .int y, .int (z + 1)]) := upd_same
    have hL2 : SqL K (upd H b (.lst (([.int x, .int y, .int z] : List V).set 2 (.int (z + 1))))) b [.int x, .int y, .int (z + 1)] := SqL.of hb2
    unfold boxLine at hn
    refine ⟨_, rfl, b, _, 1, _, rfl, rfl, hL2, rfl, _, rfl, b, _, 2, _, rfl, rfl, hL2, rfl, _, _, rfl, rfl, .inl ⟨by decide, by decide⟩, _, _, rfl, rfl, _, rfl, b, _, 2, _, rfl, rfl, hL2, rfl, _, _, rfl, rfl, _, _, rfl, rfl, .inr ⟨by omega, by omega⟩, _, _, rfl, rfl, (show (0 : Int) < 2147483647 by decide), ?_⟩
    show gName 3 (V.int ((y + 48271 * (z + 1)) * (39373 + (z + 1)) % 2147483647)) _ _ _
    generalize (y + 48271 * (z + 1)) * (39373 + (z + 1)) % 2147483647 = u
    have u7 : 0 ≤ u % 40009 := Int.emod_nonneg _ (by decide)
    have u8 : u % 40009 < 40009 := Int.emod_lt_of_pos _ (by decide)
    refine ⟨_, rfl, _, rfl, b, _, 2, _, rfl, rfl, hL2, rfl, _, _, rfl, rfl, _, rfl, b, _, 1, _, rfl, rfl, hL2, rfl, _, _, rfl, rfl, ⟨by decide, by decide⟩, _, _, rfl, rfl, _, rfl, _, _, rfl, rfl, (show (0 : Int) < 40009 by decide), _, _, rfl, rfl, _, _, rfl, rfl, .inr ⟨by omega, by omega⟩, _, _, rfl, rfl, (show (0 : Int) < 2147483629 by decide), ?_⟩
    refine ⟨_, rfl, _, _, rfl, rfl, .inr ⟨by decide, by decide⟩, _, rfl, _, _, rfl, rfl, _, _, rfl, rfl, (show (0 : Int) < 2147483587 by decide), _, _, rfl, rfl, ⟨by decide, by decide⟩, _, rfl, _, _, rfl, rfl, m0, ?_⟩
    exact q _ _ (Int.emod_nonneg _ (by omega)) (Int.emod_lt_of_pos _ m0) ap_upd ⟨x, y, z + 1, hb2, hx, by omega, by unfold boxLine; omega⟩
end
end K01

set_option Elab.async false
set_option linter.all false
set_option maxRecDepth 100000
set_option maxHeartbeats 4000000
namespace K01
open PySem PySem.Spec PyProof.Rows L2 Hs Hm
theorem kit2 {K : PySem.W.Frag} {T U : String} {f g : PyData → Bool} (kf : ∀ d, kitB (tyD d) T = some (f d)) (kg : ∀ d, kitB (tyD d) U = some (g d)) (d : PyData) : PySem.W.kitAny K (.type (tyD d)) [.type T, .type U] = some (f d || g d) := by
  refine kitAny_cons (kit_ty (kf d)) (fun e => ?_) (fun e => by rw [e]; rfl)
  refine kitAny_cons (kit_ty (kg d)) (fun e2 => ?_) (fun e2 => by rw [e2]; simp)
  rw [e, e2]; rfl
theorem walk_zipT {K : PySem.W.Frag} {a b : Addr} {xs ys : List V} {n : Nat} (hn : n = min xs.length ys.length) : Walk (RZ.ItzT K a b) n (fun H => SqT K H a xs ∧ SqT K H b ys) (YPair (fun i => xs[i]?) (fun i => ys[i]?)) := by
  subst hn
  refine ⟨fun i H hi q => ?_, fun H q => ⟨xs, ys, q.1, q.2, by omega⟩, fun i H v G _ q y => ?_⟩
  · exact ⟨xs, ys, xs[i]'(by omega), ys[i]'(by omega), q.1, q.2, List.getElem?_eq_getElem (by omega), List.getElem?_eq_getElem (by omega)⟩
  · obtain ⟨T, x, z, h1, h2, h3, h4, h5⟩ := y
    exact ⟨T, x, z, h1, h2, h3, h4 xs q.1, h5 ys q.2⟩
theorem depth_mem {ds : List PyData} {i : Nat} (h : i < ds.length) : (ds.getD i .none).depth ≤ PyData.depthAll ds := by
  induction ds generalizing i with
  | nil => cases h
  | cons d ds ih =>
    cases i with
    | zero => exact Nat.le_max_left _ _
    | succ i => exact Nat.le_trans (ih (by simpa using h)) (Nat.le_max_right _ _)
mutual
/-- how many nodes -/
def numD : PyData → Nat
  | .list xs => numL xs + 1
  | .tuple xs => numL xs + 1
  | .none => 1 | .bool _ => 1 | .int _ => 1 | .str _ => 1 | .dict _ => 1
def numL : List PyData → Nat
  | [] => 0
  | x :: xs => numD x + numL xs
end
theorem numD_pos (d : PyData) : 1 ≤ numD d := by cases d <;> simp only [numD] <;> omega
theorem num_len (ds : List PyData) : ds.length ≤ numL ds := by
  induction ds with
  | nil => exact Nat.le_refl _
  | cons d ds ih =>
    have := numD_pos d
    simp only [numL, List.length_cons]; omega
theorem num_mem {ds : List PyData} {i : Nat} (h : i < ds.length) : numD (ds.getD i .none) ≤ numL ds := by
  induction ds generalizing i with
  | nil => cases h
  | cons d ds ih =>
    cases i with
    | zero => simp only [numL, List.getD_cons_zero]; omega
    | succ i =>
      have := ih (i := i) (by simpa using h)
      simp only [numL, List.getD_cons_succ]; omega
section
variable {P : Program} {w : World} {K : PySem.W.Frag} {mg : Str → Option Value} {base : Heap} {f : Addr} {fd : FuncData}
/-! ### _law_same: of one and the same data it is True -/
def spSame (K : PySem.W.Frag) (n : Nat) : Sp := fun vs H Q _ => ∃ v u d, vs = [v, u] ∧ Dp K H v d ∧ Dp K H u d ∧ d.depth < n ∧ numD d ≤ 100000 ∧ ∀ G, Same H G → Q (.bl true) G
theorem scSame : FnScope ["_law_found", "_law_due", "_law_a", "_law_b"] ["_law_found", "_law_due"] (defScope sSame) := ⟨rfl, rfl, rfl, by decide +kernel, rfl, by decide +kernel, by decide +kernel⟩
theorem all_true (n : Nat) : ((List.replicate n true)).all id = true := by
  rw [List.all_eq_true]
  intro x hx
  rw [List.eq_of_mem_replicate hx]; rfl
theorem ok_same_step {n : Nat} (F : Fun K "_law_same" "_law_same" sSame f fd) (B : B0 mg) (ms : mg "str" = none) (G : FnOk P w K mg base CX0 n f fd ["_law_found", "_law_due"] (spSame K n)) (bG : Binds K fd ["_law_found", "_law_due"] []) (mG : mg "_law_same" = some (.ref f)) :
    FnOk P w K mg base CX0 (n + 1) f fd ["_law_found", "_law_due"] (spSame K (n + 1)) := by
  refine F.ok scSame (fun vs H Q E h => ?_) (fun cdv A outer s H vs Q E hr h => ?_)
  · obtain ⟨v, u, d, rfl, _⟩ := h; rfl
  obtain ⟨v, u, d, rfl, hv, hu, hdep, hnum, q⟩ := h
  refine ⟨_, pss_cons (ps_if (pt_val (pe_callB call_isiT (by rfl) B.isinstance PyProof.Rows.boot_isinstance (pa_cons (pv 1) (pa_cons (pe_tup (pa_cons (pe_list_ (by rfl) B.list) (pa_cons (pe_tuple_ (by rfl) B.tuple) pa_nil))) pa_nil))))
      (pss_cons (ps_if (PW.pt (pw_or (pt_cmpR op_ne (pe_callB call_isi (by rfl) B.isinstance PyProof.Rows.boot_isinstance (pa_cons (pv 0) (pa_cons (pe_list_ (by rfl) B.list) pa_nil))) (pe_callB call_isi (by rfl) B.isinstance PyProof.Rows.boot_isinstance (pa_cons (pv 1) (pa_cons (pe_list_ (by rfl) B.list) pa_nil))) (nomark _))
          (pw_or1 (pt_cmpR op_ne (pe_callB call_isi (by rfl) B.isinstance PyProof.Rows.boot_isinstance (pa_cons (pv 0) (pa_cons (pe_tuple_ (by rfl) B.tuple) pa_nil))) (pe_callB call_isi (by rfl) B.isinstance PyProof.Rows.boot_isinstance (pa_cons (pv 1) (pa_cons (pe_tuple_ (by rfl) B.tuple) pa_nil))) (nomark _))))) (pss_one (ps_ret pe_bl)) pss_nil)
      (pss_one (ps_ret (pe_and (pe_cmpR op_eq (pe_callB call_len_seq (by rfl) B.len PySem.boot_len (pa_cons (pv 0) pa_nil)) (pe_callB call_len_seq (by rfl) B.len PySem.boot_len (pa_cons (pv 1) pa_nil)) (nomark _))
        (pe_one (pe_callB (cr_all rfl) (by rfl) B.all PyProof.Rows.boot_all (pa_cons (pe_lc (own := [("_law_a", 2), ("_law_b", 3)]) (g := gTup K 2 (gCons (gName 2) (gCons (gName 3) gNil))) (tt := tYes) (te := tCall (spSame K n) [] E0 (tCons (tVar 2) (tCons (tVar 3) tNil))) (by rfl) scSame.nd (RZ.pi_zipA (by rfl) B.zip (pa_cons (pv 0) (pa_cons (pv 1) pa_nil)))
          (blkOk_by (N := ["_law_found", "_law_due", "_law_a", "_law_b"]) (sc := defScope sSame) (by decide +kernel)) (fun _ _ _ _ _ => pg_tup rfl (pgs_cons (pg_name (i := 2) scSame.nd rfl (Or.inl rfl)) (pgs_cons (pg_name (i := 3) scSame.nd rfl (Or.inl rfl)) pgs_nil)))
          (fun _ _ _ _ _ => pts_nil) (fun _ _ _ _ _ => pe_call G hr (by rfl) mG F.kp bG .nil pass0 (pa_cons (pv 2) (pa_cons (pv 3) pa_nil)))) pa_nil))))))) pss_nil)
    (pss_cons (ps_if (PW.pt (pw_or (pt_cmpR op_isN (pv 1) pe_non (nomark _)) (pw_or1 (pt_val (pe_callB call_isiT (by rfl) B.isinstance PyProof.Rows.boot_isinstance (pa_cons (pv 1) (pa_cons (pe_tup (pa_cons (pe_bool_ (by rfl) B.bool) (pa_cons (pe_bltn (v := .ty "str") (by rfl) ms PyProof.Rows.boot_str rfl) pa_nil))) pa_nil)))))))
      (pss_one (ps_ret (pe_and (pe_cmpR op_eq (pv 0) (pv 1) (nomark _)) (pe_and (pe_cmpR op_eq (pe_callB call_isi (by rfl) B.isinstance PyProof.Rows.boot_isinstance (pa_cons (pv 0) (pa_cons (pe_bool_ (by rfl) B.bool) pa_nil))) (pe_callB call_isi (by rfl) B.isinstance PyProof.Rows.boot_isinstance (pa_cons (pv 1) (pa_cons (pe_bool_ (by rfl) B.bool) pa_nil))) (nomark _))
        (pe_one (pe_cmpR op_eq (pe_cmpR op_isN (pv 0) pe_non (nomark _)) (pe_cmpR op_isN (pv 1) pe_non (nomark _)) (nomark _))))))) pss_nil)
    (pss_one (ps_ret (pe_and (pe_callB call_isi (by rfl) B.isinstance PyProof.Rows.boot_isinstance (pa_cons (pv 0) (pa_cons (pe_int_ (by rfl) B.int) pa_nil))) (pe_and (pe_not (pe_callB call_isi (by rfl) B.isinstance PyProof.Rows.boot_isinstance (pa_cons (pv 0) (pa_cons (pe_bool_ (by rfl) B.bool) pa_nil)))) (pe_one (pe_cmpR op_eq (pv 0) (pv 1) (nomark _)))))))), ?_⟩
  refine ⟨_, rfl, (by show 2 ≤ sizeLine; decide), fun p np => ?_⟩
  have s1 : Same H (upd H p (.tup [.ty "list", .ty "tuple"])) := same_new np
  have hv1 := same_dp s1 hv
  have hu1 := same_dp s1 hu
  refine ⟨u, p, _, _, [.type "list", .type "tuple"], _, rfl, upd_same, .cons (.ty _) (.cons (.ty _) .nil), dp_ty hu1, kit2 kit_list kit_tuple d, _, rfl, ?_⟩
  -- a list or a tuple
  have body : ∀ (a b : Addr) (xs ys : List V) (ds : List PyData), v = .ref a → u = .ref b → DpAll K H xs ds → DpAll K H ys ds → PyData.depthAll ds < n → numL ds ≤ 100000 → ((SqL K H a xs ∧ SqL K H b ys) ∨ (SqT K H a xs ∧ SqT K H b ys)) →
      tAndV (tOp rEq (tCB (fun xs H Q => ∃ p ys, xs = [.ref p] ∧ (SqL K H p ys ∨ SqT K H p ys) ∧ Q (.int ys.length) H) (tCons (tVar 0) tNil)) (tCB (fun xs H Q => ∃ p ys, xs = [.ref p] ∧ (SqL K H p ys ∨ SqT K H p ys) ∧ Q (.int ys.length) H) (tCons (tVar 1) tNil)))
        (tCB (rAll K) (tCons (tLc (RZ.iZipA K (tCons (tVar 0) (tCons (tVar 1) tNil))) (gTup K 2 (gCons (gName 2) (gCons (gName 3) gNil))) tYes (tCall (spSame K n) [] E0 (tCons (tVar 2) (tCons (tVar 3) tNil))) [2, 3]) tNil)) [some v, some u, none, none] (upd H p (.tup [.ty "list", .ty "tuple"])) Q := by
    intro a b xs ys ds ea eb hx hy hd hm hs
    subst ea eb
    have lx := dpAll_len hx
    have ly := dpAll_len hy
    have hsA : (SqL K (upd H p (.tup [.ty "list", .ty "tuple"])) a xs ∨ SqT K (upd H p (.tup [.ty "list", .ty "tuple"])) a xs) := hs.imp (fun z => s1.seq z.1) (fun z => same_tup s1 z.1)
    have hsB : (SqL K (upd H p (.tup [.ty "list", .ty "tuple"])) b ys ∨ SqT K (upd H p (.tup [.ty "list", .ty "tuple"])) b ys) := hs.imp (fun z => s1.seq z.2) (fun z => same_tup s1 z.2)
    refine ⟨_, rfl, a, xs, rfl, hsA, _, rfl, b, ys, rfl, hsB, rfl, _, rfl, ?_⟩
    rw [decide_eq_true (show V.int (xs.length : Nat) = V.int (ys.length : Nat) by rw [lx, ly])]
    refine iteT ⟨_, rfl, _, rfl, a, b, xs, ys, rfl, ?_⟩
    have turn : ∀ (D : Addr) (i : Nat) (x : V) (G1 G2 : Hp), (upd H p (.tup [.ty "list", .ty "tuple"])) D = none → i < ds.length → Same (upd H p (.tup [.ty "list", .ty "tuple"])) G1 ∧ G1 D = some (.lst ((List.replicate i true).map V.bl)) → YPair (fun i => xs[i]?) (fun i => ys[i]?) i G1 x G2 → ∃ T x1 x2, x = .ref T ∧ G2 T = some (.tup [x1, x2]) ∧ Dp K G2 x1 (ds.getD i .none) ∧ Dp K G2 x2 (ds.getD i .none) ∧ Same (upd H p (.tup [.ty "list", .ty "tuple"])) G2 ∧ G2 D = some (.lst ((List.replicate i true).map V.bl)) := by
      rintro D i x G1 G2 nD hi ⟨sm, hD⟩ ⟨T, x1, x2, rfl, nT, rfl, e1, e2⟩
      have sm2 := sm.trans (same_new (o := .tup [x1, x2]) nT)
      have smH := s1.trans sm2
      exact ⟨T, x1, x2, rfl, upd_same, same_dp smH (dpAll_get hx e1), same_dp smH (dpAll_get hy e2), sm2, by rw [upd_ne (ne_of_none hD nT)]; exact hD⟩
    have fin : ∀ (D : Addr) (G1 : Hp), Same (upd H p (.tup [.ty "list", .ty "tuple"])) G1 ∧ G1 D = some (.lst ((List.replicate ds.length true).map V.bl)) → rAll K [.ref D] G1 Q := by
      rintro D G1 ⟨sm, hD⟩
      refine ⟨D, _, rfl, SqL.of hD, ?_⟩
      rw [all_true]; exact q _ (s1.trans sm)
    have step : ∀ (D : Addr) (i : Nat) (x : V) (G1 G2 : Hp), (upd H p (.tup [.ty "list", .ty "tuple"])) D = none → i < ds.length → Same (upd H p (.tup [.ty "list", .ty "tuple"])) G1 ∧ G1 D = some (.lst ((List.replicate i true).map V.bl)) → YPair (fun i => xs[i]?) (fun i => ys[i]?) i G1 x G2 →
        gTup K 2 (gCons (gName 2) (gCons (gName 3) gNil)) x (wipe [some (.ref a), some (.ref b), none, none] [2, 3]) G2 fun σ2 H2 => wipe σ2 [2, 3] = wipe [some (.ref a), some (.ref b), none, none] [2, 3] ∧ tYes σ2 H2 fun b2 H3 => if b2 = true then tCall (spSame K n) [] E0 (tCons (tVar 2) (tCons (tVar 3) tNil)) σ2 H3 fun y H4 => ∃ acc, H4 D = some (.lst acc) ∧ acc.length < sizeLine ∧
          (Same (upd H p (.tup [.ty "list", .ty "tuple"])) (upd H4 D (.lst (acc ++ [y]))) ∧ (upd H4 D (.lst (acc ++ [y]))) D = some (.lst ((List.replicate (i + 1) true).map V.bl))) else (Same (upd H p (.tup [.ty "list", .ty "tuple"])) H3 ∧ H3 D = some (.lst ((List.replicate (i + 1) true).map V.bl))) := by
      intro D i x G1 G2 nD hi pp y
      obtain ⟨T, x1, x2, rfl, hT, d1, d2, sm2, hD⟩ := turn D i x G1 G2 nD hi pp y
      refine ⟨T, _, rfl, SqT.of hT, rfl, _, _, rfl, _, _, rfl, rfl, rfl, _, rfl, _, rfl, x1, x2, _, rfl, d1, d2, Nat.lt_of_le_of_lt (depth_mem hi) hd, Nat.le_trans (num_mem hi) hm, fun G3 sm3 => ⟨_, sm3 D _ hD, ?_, ?_, ?_⟩⟩
      · rw [List.length_map, List.length_replicate, sizeLine_eq]
        have := num_len ds
        omega
      · exact same_grow nD (sm2.trans sm3)
      · rw [upd_same, List.replicate_succ', List.map_append]; rfl
    rcases hs with ⟨z1, z2⟩ | ⟨z1, z2⟩
    · refine .inl ⟨s1.seq z1, s1.seq z2, fun D nD => lc_it (walk_zip (n := ds.length) (by omega)) (fun i G1 => Same (upd H p (.tup [.ty "list", .ty "tuple"])) G1 ∧ G1 D = some (.lst ((List.replicate i true).map V.bl))) ⟨same_new nD, upd_same⟩ (fun i G1 _ p => ⟨p.1.seq (s1.seq z1), p.1.seq (s1.seq z2)⟩) (fun i x G1 G2 hi p y => step D i x G1 G2 nD hi p y) (fun G1 p => fin D G1 p)⟩
    · exact .inr ⟨same_tup s1 z1, same_tup s1 z2, fun D nD => lc_it (walk_zipT (n := ds.length) (by omega)) (fun i G1 => Same (upd H p (.tup [.ty "list", .ty "tuple"])) G1 ∧ G1 D = some (.lst ((List.replicate i true).map V.bl))) ⟨same_new nD, upd_same⟩ (fun i G1 _ p => ⟨same_tup p.1 (same_tup s1 z1), same_tup p.1 (same_tup s1 z2)⟩) (fun i x G1 G2 hi p y => step D i x G1 G2 nD hi p y) (fun G1 p => fin D G1 p)⟩
  have qq : ∀ G, Same (upd H p (.tup [.ty "list", .ty "tuple"])) G → Q (.bl true) G := fun G sm => q G (s1.trans sm)
  cases hv with
  | @lst a xs ds hs ha =>
    cases hu with
    | @lst b ys _ hs2 ha2 =>
      refine iteT ?_
      refine ⟨_, rfl, _, _, _, _, _, rfl, .ty _, dp_ty hv1, kit_ty (kit_list _), _, rfl, _, _, _, _, _, rfl, .ty _, dp_ty hu1, kit_ty (kit_list _), rfl, _, rfl, iteF ?_⟩
      refine ⟨_, rfl, _, _, _, _, _, rfl, .ty _, dp_ty hv1, kit_ty (kit_tuple _), _, rfl, _, _, _, _, _, rfl, .ty _, dp_ty hu1, kit_ty (kit_tuple _), rfl, _, rfl, iteF ?_⟩
      exact body a b xs ys ds rfl rfl ha ha2 (by simp only [PyData.depth] at hdep; omega) (by simp only [numD] at hnum; omega) (.inl ⟨hs, hs2⟩)
  | @tup a xs ds hs ha =>
    cases hu with
    | @tup b ys _ hs2 ha2 =>
      refine iteT ?_
      refine ⟨_, rfl, _, _, _, _, _, rfl, .ty _, dp_ty hv1, kit_ty (kit_list _), _, rfl, _, _, _, _, _, rfl, .ty _, dp_ty hu1, kit_ty (kit_list _), rfl, _, rfl, iteF ?_⟩
      refine ⟨_, rfl, _, _, _, _, _, rfl, .ty _, dp_ty hv1, kit_ty (kit_tuple _), _, rfl, _, _, _, _, _, rfl, .ty _, dp_ty hu1, kit_ty (kit_tuple _), rfl, _, rfl, iteF ?_⟩
      exact body a b xs ys ds rfl rfl ha ha2 (by simp only [PyData.depth] at hdep; omega) (by simp only [numD] at hnum; omega) (.inr ⟨hs, hs2⟩)
  | non =>
    cases hu
    refine iteF ⟨_, rfl, rfl, _, rfl, iteT (iteT ?_)⟩
    refine ⟨_, rfl, _, rfl, rfl, _, rfl, iteT ?_⟩
    refine ⟨_, rfl, _, _, _, _, _, rfl, .ty _, dp_ty hv1, kit_ty (kit_bool _), _, rfl, _, _, _, _, _, rfl, .ty _, dp_ty hu1, kit_ty (kit_bool _), rfl, _, rfl, iteT ?_⟩
    exact ⟨_, rfl, rfl, _, rfl, rfl, rfl, qq _ (Same.refl _)⟩
  | bl b =>
    cases hu
    refine iteF ⟨_, rfl, rfl, _, rfl, iteF ?_⟩
    refine ⟨_, rfl, (by show 2 ≤ sizeLine; decide), fun p2 np2 => ?_⟩
    refine ⟨_, p2, _, _, [.type "bool", .type "str"], _, rfl, upd_same, .cons (.ty _) (.cons (.ty _) .nil), dp_ty (.bl b), kit2 kit_bool kit_str (.bool b), _, rfl, iteT ?_⟩
    refine ⟨_, rfl, _, rfl, rfl, _, rfl, ?_⟩
    rw [decide_eq_true rfl]
    refine iteT ⟨_, rfl, _, _, _, _, _, rfl, .ty _, dp_ty (.bl b), kit_ty (kit_bool _), _, rfl, _, _, _, _, _, rfl, .ty _, dp_ty (.bl b), kit_ty (kit_bool _), rfl, _, rfl, iteT ?_⟩
    exact ⟨_, rfl, rfl, _, rfl, rfl, rfl, qq _ (same_new np2)⟩
  | str x =>
    cases hu
    refine iteF ⟨_, rfl, rfl, _, rfl, iteF ?_⟩
    refine ⟨_, rfl, (by show 2 ≤ sizeLine; decide), fun p2 np2 => ?_⟩
    refine ⟨_, p2, _, _, [.type "bool", .type "str"], _, rfl, upd_same, .cons (.ty _) (.cons (.ty _) .nil), dp_ty (.str x), kit2 kit_bool kit_str (.str x), _, rfl, iteT ?_⟩
    refine ⟨_, rfl, _, rfl, rfl, _, rfl, ?_⟩
    rw [decide_eq_true rfl]
    refine iteT ⟨_, rfl, _, _, _, _, _, rfl, .ty _, dp_ty (.str x), kit_ty (kit_bool _), _, rfl, _, _, _, _, _, rfl, .ty _, dp_ty (.str x), kit_ty (kit_bool _), rfl, _, rfl, iteT ?_⟩
    exact ⟨_, rfl, rfl, _, rfl, rfl, rfl, qq _ (same_new np2)⟩
  | int i =>
    cases hu
    refine iteF ⟨_, rfl, rfl, _, rfl, iteF ?_⟩
    refine ⟨_, rfl, (by show 2 ≤ sizeLine; decide), fun p2 np2 => ?_⟩
    refine ⟨_, p2, _, _, [.type "bool", .type "str"], _, rfl, upd_same, .cons (.ty _) (.cons (.ty _) .nil), dp_ty (.int i), kit2 kit_bool kit_str (.int i), _, rfl, iteF ?_⟩
    refine ⟨_, rfl, _, _, _, _, _, rfl, .ty _, dp_ty (.int i), kit_ty (kit_int _), _, rfl, iteT ?_⟩
    refine ⟨_, rfl, _, _, _, _, _, rfl, .ty _, dp_ty (.int i), kit_ty (kit_bool _), _, rfl, _, rfl, iteT ?_⟩
    refine ⟨_, rfl, _, rfl, rfl, ?_⟩
    rw [decide_eq_true rfl]
    exact qq _ (same_new np2)
theorem ok_same (F : Fun K "_law_same" "_law_same" sSame f fd) (B : B0 mg) (ms : mg "str" = none) (bG : Binds K fd ["_law_found", "_law_due"] []) (mG : mg "_law_same" = some (.ref f)) : ∀ n, FnOk P w K mg base CX0 n f fd ["_law_found", "_law_due"] (spSame K n)
  | 0 => by
    have no : ∀ vs H Q E, ¬ spSame K 0 vs H Q E := fun vs H Q E ⟨_, _, _, _, _, _, h, _⟩ => absurd h (Nat.not_lt_zero _)
    exact ⟨fun vs H Q E h => absurd h (no vs H Q E), fun _ _ _ H _ _ vs Q E _ _ _ _ h => absurd h (no vs H Q E)⟩
  | n + 1 => ok_same_step F B ms (ok_same F B ms bG mG n) bG mG
end
end K01

set_option Elab.async false
set_option linter.all false
set_option maxRecDepth 100000
set_option maxHeartbeats 4000000
namespace K01
open PySem PySem.Spec PyProof.Rows L2 Hs Hm
theorem erase_perm : ∀ {l : List Int} {i : Nat} (h : i < l.length), (l[i] :: l.eraseIdx i).Perm l
  | _ :: _, 0, _ => List.Perm.refl _
  | x :: l, i + 1, h => by
    have ih := erase_perm (l := l) (i := i) (by simpa using h)
    exact (List.Perm.swap x _ _).trans (ih.cons x)
theorem map_erase : ∀ (l : List Int) (i : Nat), (l.map V.int).eraseIdx i = (l.eraseIdx i).map V.int
  | [], _ => rfl
  | _ :: _, 0 => rfl
  | x :: l, i + 1 => by
    show V.int x :: (l.map V.int).eraseIdx i = V.int x :: (l.eraseIdx i).map V.int
    rw [map_erase l i]
section
variable {P : Program} {w : World} {K : PySem.W.Frag} {mg : Str → Option Value} {base : Heap} {f : Addr} {fd : FuncData}
theorem box_ne {H : Hp} {b p : Addr} {n : Nat} (h : BoxAt H b n) (hp : H p = none) : p ≠ b := fun e => by
  obtain ⟨o, z⟩ := h.some
  rw [e, z] at hp; cases hp
theorem hid_lst {H : Hp} {b a : Addr} {o : HO} (h : H a = some o) (ne : a ≠ b) : hid H b a = some o := by rw [hid_ne ne]; exact h
theorem ap_get {b a : Addr} {H G : Hp} {o : HO} (h : Ap b H G) (e : H a = some o) (ne : a ≠ b) : G a = some o := by
  have z := h a o (hid_lst e ne)
  rw [hid_ne ne] at z; exact z
/-- all but b stands, and what was not there may be: an update at a fresh place keeps what stands -/
theorem ap_up {b a : Addr} {H G : Hp} {o : HO} (h : Ap b H G) (na : H a = none) : Ap b H (upd G a o) := fun c z e => by
  have ne : c ≠ b := fun q => by rw [q, hid_at] at e; cases e
  have nc : c ≠ a := fun q => by rw [hid_ne ne, q, na] at e; cases e
  have y := h c z e
  rw [hid_ne ne] at y ⊢
  rw [upd_ne nc]; exact y
theorem box_up {b a : Addr} {G : Hp} {o : HO} {n : Nat} (h : BoxAt G b n) (ne : a ≠ b) : BoxAt (upd G a o) b n := by
  obtain ⟨x, y, z, e, h1, h2, h3⟩ := h
  exact ⟨x, y, z, by rw [upd_ne (Ne.symm ne)]; exact e, h1, h2, h3⟩
/-! ### of -/
def spOf (K : PySem.W.Frag) : Sp := fun vs H Q _ => ∃ b a xs n, vs = [.ref b, .ref a] ∧ SqL K (hid H b) a xs ∧ 0 < xs.length ∧ xs.length ≤ 1000 ∧ BoxAt H b (n + 1) ∧ ∀ (i : Nat) (x : V) (G : Hp), xs[i]? = some x → Ap b H G → BoxAt G b n → Q x G
theorem scOf : FnScope ["_law_box_here", "_law_some"] ["_law_box_here", "_law_some"] (defScope sOf) := ⟨rfl, rfl, rfl, by decide +kernel, rfl, by decide +kernel, by decide +kernel⟩
theorem ok_of {k : Nat} {g : Addr} {gd : FuncData} (F : Fun K "_law_of" "_law_of" sOf f fd) (B : B0 mg) (T : FnOk P w K mg base CX0 k g gd ["_law_box_here", "_law_below"] (spTake K)) (bT : Binds K gd ["_law_box_here", "_law_below"] []) (kT : PySem.W.keepIn K (.ref g) = true) (mT : mg "_law_take" = some (.ref g)) :
    FnOk P w K mg base CX0 (k + 1) f fd ["_law_box_here", "_law_some"] (spOf K) := by
  refine F.ok scOf (fun vs H Q E h => ?_) (fun cdv A outer s H vs Q E hr h => ?_)
  · obtain ⟨b, a, xs, n, rfl, _⟩ := h; rfl
  obtain ⟨b, a, xs, n, rfl, hS, h0, h1, hB, q⟩ := h
  refine ⟨_, pss_one (ps_ret (pe_ix ix_list (pv 1) (pe_call T hr (by rfl) mT kT bT .nil pass0 (pa_cons (pv 0) (pa_cons (pe_callB call_len_seq (by rfl) B.len PySem.boot_len (pa_cons (pv 1) pa_nil)) pa_nil))) (fun _ _ => rfl))), ?_⟩
  refine ⟨_, rfl, _, rfl, _, rfl, a, xs, rfl, .inl ((hid_same H b).seq hS), b, _, n, rfl, by omega, by omega, hB, fun r G r0 r1 ap hB2 => ?_⟩
  have hr2 : r.toNat < xs.length := by omega
  have hx : xs[r.toNat]? = some xs[r.toNat] := List.getElem?_eq_getElem hr2
  have hat : atI xs r = some xs[r.toNat] := by
    have z := atI_nat hx
    rwa [show ((r.toNat : Nat) : Int) = r by omega] at z
  exact ⟨a, xs, r, _, rfl, rfl, (hid_same G b).seq (Same.seq ap hS), hat, q _ _ G hx ap hB2⟩
/-! ### strewn -/
def spStrewn (K : PySem.W.Frag) : Sp := fun vs H Q _ => ∃ (b a : Addr) (ns : List Int) (n : Nat), vs = [.ref b, .ref a] ∧ SqL K (hid H b) a (ns.map V.int) ∧ ns.length ≤ 1000 ∧ BoxAt H b (n + ns.length) ∧
  ∀ (p : Addr) (ms : List Int) (G : Hp), ms.Perm ns → Ap b H G → BoxAt G b n → H p = none → G p = some (.lst (ms.map V.int)) → Q (.ref p) G
theorem scStrewn : FnScope ["_law_box_here", "_law_some", "_law_left", "_law_found"] ["_law_box_here", "_law_some"] (defScope sStrewn) := ⟨rfl, rfl, rfl, by decide +kernel, rfl, by decide +kernel, by decide +kernel⟩
theorem dp_ints {H : Hp} : ∀ ns : List Int, DpAll K H (ns.map V.int) (ns.map PyData.int)
  | [] => .nil
  | n :: ns => .cons (.int n) (dp_ints ns)
theorem shaped_ints (ns : List Int) : SeqAt.shaped (.list (ns.map PyData.int)) = true := by
  have h1 : ∀ l : List Int, PyData.canLayAll0 (l.map PyData.int) = true := by
    intro l; induction l with
    | nil => rfl
    | cons x l ih => show (PyData.canLay0 (.int x) && PyData.canLayAll0 (l.map PyData.int)) = true; rw [ih]; rfl
  have h2 : ∀ l : List Int, PyData.depthAll (l.map PyData.int) = 0 := by
    intro l; induction l with
    | nil => rfl
    | cons x l ih => show max (PyData.depth (.int x)) (PyData.depthAll (l.map PyData.int)) = 0; rw [ih]; rfl
  show (PyData.canLayAll0 (ns.map PyData.int) && decide (PyData.depthAll (ns.map PyData.int) + 1 ≤ 64)) = true
  rw [h1, h2]; rfl
theorem eqv_nil (ns : List Int) : PyData.eqv (.list (ns.map PyData.int)) (.list []) = ns.isEmpty := by
  cases ns <;> simp [PyData.eqv, PyData.eqvAll]
theorem ok_strewn {k : Nat} {g : Addr} {gd : FuncData} (F : Fun K "_law_strewn" "_law_strewn" sStrewn f fd) (B : B0 mg) (T : FnOk P w K mg base CX0 k g gd ["_law_box_here", "_law_below"] (spTake K)) (bT : Binds K gd ["_law_box_here", "_law_below"] []) (kT : PySem.W.keepIn K (.ref g) = true) (mT : mg "_law_take" = some (.ref g)) :
    FnOk P w K mg base CX0 (k + 1) f fd ["_law_box_here", "_law_some"] (spStrewn K) := by
  refine F.ok scStrewn (fun vs H Q E h => ?_) (fun cdv A outer s H vs Q E hr h => ?_)
  · obtain ⟨b, a, ns, n, rfl, _⟩ := h; rfl
  obtain ⟨b, a, ns, n, rfl, hS, h1, hB, q⟩ := h
  refine ⟨_, pss_cons (ps_par (i := 2) (j := 3) (by rfl) scStrewn.nd rfl rfl (by decide) rfl rfl (pa_cons (pe_callTy call_list_of (by rfl) B.list PyProof.Rows.boot_list (pa_cons (pv 1) pa_nil)) (pa_cons (pe_lst pa_nil) pa_nil)) (by rfl))
    (pss_cons (ps_while PassesOwn.never (pt_cmpR (op_neD hr.units) (pv 2) (pe_lst pa_nil) (nomark _))
      (pss_one (ps_expr (pe_bm PySem.F.plainAttrs_list PySem.F.slot_list_append PySem.F.type_list_append mt_append (pv 3)
        (pa_cons (pe_bm PySem.F.plainAttrs_list PySem.F.slot_list_pop PySem.F.type_list_pop mt_popAt (pv 2) (pa_cons (pe_call T hr (by rfl) mT kT bT .nil pass0 (pa_cons (pv 0) (pa_cons (pe_callB call_len_seq (by rfl) B.len PySem.boot_len (pa_cons (pv 2) pa_nil)) pa_nil))) pa_nil)) pa_nil)))))
    (pss_one (ps_ret (pv 3)))), ?_⟩
  refine ⟨_, rfl, a, _, rfl, .inl ((hid_same H b).seq hS), fun l nl => ⟨Nat.zero_le _, fun o no => ⟨_, _, rfl, ?_⟩⟩⟩
  have nlb : l ≠ b := box_ne hB nl
  have nob0 : o ≠ b := box_ne (box_up (o := .lst (ns.map V.int)) hB nlb) no
  have nol : l ≠ o := ne_of_none (upd_same (H := H) (a := l) (o := .lst (ns.map V.int))) no
  have noH : H o = none := by rw [upd_ne nol.symm] at no; exact no
  refine ⟨fun m σ G => ∃ ls fs : List Int, m = ls.length ∧ σ = [some (.ref b), some (.ref a), some (.ref l), some (.ref o)] ∧ (fs ++ ls).Perm ns ∧ G l = some (.lst (ls.map V.int)) ∧ G o = some (.lst (fs.map V.int)) ∧ Ap b H G ∧ BoxAt G b (n + ls.length),
    ⟨ns.length, ns, [], rfl, rfl, List.Perm.refl _, by rw [upd_ne nol]; exact upd_same, upd_same, ap_up (ap_up (Ap.refl b H) nl) noH, box_up (box_up hB nlb) nob0⟩, ?_⟩
  rintro m σ G ⟨ls, fs, rfl, rfl, perm, hl, ho, ap, hBG⟩
  have plen := perm.length_eq
  rw [List.length_append] at plen
  refine ⟨_, rfl, Nat.zero_le _, fun e ne => ?_⟩
  have sE : Same G (upd G e (.lst [])) := same_new ne
  have hl1 := sE l _ hl
  have ho1 := sE o _ ho
  have hB1 := hBG.same sE
  have ap1 : Ap b H (upd G e (.lst [])) := ap.trans (ap_same sE)
  refine ⟨.list (ls.map PyData.int), .list [], .lst (SqL.of hl1) (dp_ints ls), .lst (SqL.of upd_same) .nil, shaped_ints ls, rfl, _, rfl, ?_⟩
  rw [eqv_nil]
  cases hE : ls.isEmpty with
  | true =>
    have hls : ls = [] := List.isEmpty_iff.mp hE
    subst hls
    refine iteF ⟨_, rfl, q o fs _ (by simpa using perm) ap1 (by simpa using hB1) noH ho1⟩
  | false =>
    have hpos : 0 < ls.length := by
      cases ls with
      | nil => cases hE
      | cons _ _ => simp
    refine iteT ⟨fun σ' G' => ∃ ls' fs' : List Int, ls'.length < ls.length ∧ σ' = [some (.ref b), some (.ref a), some (.ref l), some (.ref o)] ∧ (fs' ++ ls').Perm ns ∧ G' l = some (.lst (ls'.map V.int)) ∧ G' o = some (.lst (fs'.map V.int)) ∧ Ap b H G' ∧ BoxAt G' b (n + ls'.length),
      fun σ' G' ⟨ls', fs', h1, h2, h3⟩ => ⟨ls'.length, h1, ls', fs', rfl, h2, h3⟩, ?_⟩
    refine ⟨_, rfl, .inl ⟨rfl, _, SqL.of ho1⟩, _, rfl, .inl ⟨rfl, _, SqL.of hl1⟩, _, rfl, _, rfl, l, _, rfl, .inl (SqL.of hl1), b, _, n + (ls.length - 1), rfl, ?_, ?_, hB1.mono (by omega), fun r G2 r0' r1 ap2 hB2 => ?_⟩
    · rw [List.length_map]; omega
    · rw [List.length_map]; omega
    rw [List.length_map] at r1
    have hl2 := ap_get ap2 hl1 nlb
    have ho2 := ap_get ap2 ho1 nob0
    have hr2 : r.toNat < ls.length := by omega
    have hk : (ls.map V.int)[r.toNat]? = some (.int ls[r.toNat]) := by rw [List.getElem?_map, List.getElem?_eq_getElem hr2]; rfl
    have hix : ixN (ls.map V.int).length r = some r.toNat := by unfold ixN; rw [if_pos r0', if_pos (by rw [List.length_map]; omega)]
    have l2 : (upd G2 l (.lst ((ls.map V.int).eraseIdx r.toNat))) l = some (.lst ((ls.map V.int).eraseIdx r.toNat)) := upd_same
    have o2 : (upd G2 l (.lst ((ls.map V.int).eraseIdx r.toNat))) o = some (.lst (fs.map V.int)) := by rw [upd_ne nol.symm]; exact ho2
    refine ⟨l, _, r, r.toNat, _, rfl, rfl, hl2, by omega, by omega, (ixN_seq hix).1, hk, o, _, _, rfl, rfl, o2, ?_, ?_⟩
    · rw [List.length_map]; exact small1000 (by omega)
    refine ⟨ls.eraseIdx r.toNat, fs ++ [ls[r.toNat]], ?_, rfl, ?_, ?_, ?_, ?_, ?_⟩
    · rw [List.length_eraseIdx, if_pos hr2]; omega
    · refine List.Perm.trans ?_ perm
      rw [List.append_assoc]
      exact List.Perm.append_left fs (erase_perm hr2)
    · rw [upd_ne nol, upd_same, map_erase]
    · rw [upd_same, List.map_append]; rfl
    · exact ap_up (ap_up (ap1.trans ap2) nl) noH
    · rw [List.length_eraseIdx, if_pos hr2]
      exact box_up (box_up hB2 nlb) nob0
end
end K01

set_option Elab.async false
set_option linter.all false
set_option maxRecDepth 100000
set_option maxHeartbeats 4000000
namespace K01
open PySem PySem.Spec PyProof.Rows L2 Hs Hm
/-- an interval in the pile: its tuple, its ends -/
abbrev Iv := Addr × Nat × Nat
def ivD (e : Iv) : PyData := pairD e.2
def ivLen : List Iv → Nat
  | [] => 0
  | e :: L => (e.2.2 - e.2.1) + ivLen L
theorem ivLen_app : ∀ L M : List Iv, ivLen (L ++ M) = ivLen L + ivLen M
  | [], M => by simp [ivLen]
  | e :: L, M => by show _ + ivLen (L ++ M) = _; rw [ivLen_app L M, ivLen]; omega
theorem dp_iv {K : PySem.W.Frag} {G : Hp} : ∀ {L : List Iv}, (∀ e ∈ L, SqT K G e.1 [.int (e.2.1 : Nat), .int (e.2.2 : Nat)]) → DpAll K G (L.map fun e => V.ref e.1) (L.map ivD)
  | [], _ => .nil
  | e :: L, h => .cons (.tup (h e (by simp)) (.cons (.int _) (.cons (.int _) .nil))) (dp_iv fun e' he => h e' (by simp [he]))
theorem shaped_iv (L : List Iv) : SeqAt.shaped (.list (L.map ivD)) = true := by
  have h1 : ∀ l : List Iv, PyData.canLayAll0 (l.map ivD) = true := by
    intro l; induction l with
    | nil => rfl
    | cons x l ih => show (PyData.canLay0 (ivD x) && PyData.canLayAll0 (l.map ivD)) = true; rw [ih]; rfl
  have h2 : ∀ l : List Iv, PyData.depthAll (l.map ivD) ≤ 1 := by
    intro l; induction l with
    | nil => exact Nat.zero_le _
    | cons x l ih => show max (PyData.depth (ivD x)) (PyData.depthAll (l.map ivD)) ≤ 1; exact Nat.max_le.mpr ⟨Nat.le_refl _, ih⟩
  show (PyData.canLayAll0 (L.map ivD) && decide (PyData.depthAll (L.map ivD) + 1 ≤ 64)) = true
  rw [h1, decide_eq_true (by have := h2 L; omega)]; rfl
theorem eqv_iv (L : List Iv) : PyData.eqv (.list (L.map ivD)) (.list []) = L.isEmpty := by
  cases L <;> simp [PyData.eqv, PyData.eqvAll]
def natV (ns : List Nat) : List V := ns.map fun i => V.int (i : Nat)
theorem natV_set (ns : List Nat) (i v : Nat) : (natV ns).set i (.int (v : Nat)) = natV (ns.set i v) := by
  unfold natV; rw [List.map_set]
theorem natV_row (ns : List Nat) : natV ns = rowV ns.length (fun i => ns.getD i 0) := by
  apply List.ext_getElem?
  intro i
  unfold natV rowV
  rw [List.getElem?_map, List.getElem?_map]
  by_cases h : i < ns.length
  · rw [List.getElem?_range h, List.getElem?_eq_getElem h]
    show some (V.int _) = some (V.int ((ns.getD i 0 : Nat) : Int))
    rw [List.getD_eq_getElem?_getD, List.getElem?_eq_getElem h]; rfl
  · rw [List.getElem?_eq_none (by omega), List.getElem?_eq_none (by rw [List.length_range]; omega)]; rfl
theorem rep_zero (k : Nat) : (List.replicate k [V.int 0]).flatten = natV (List.replicate k 0) := by
  induction k with
  | zero => rfl
  | succ k ih =>
    rw [List.replicate_succ, List.flatten_cons, ih, List.replicate_succ]; rfl
section
variable {P : Program} {w : World} {K : PySem.W.Frag} {mg : Str → Option Value} {base : Heap} {f : Addr} {fd : FuncData}
theorem tup_up {G : Hp} {a l : Addr} {xs ys zs : List V} (h : G a = some (.tup xs)) (hl : G l = some (.lst ys)) : (upd G l (.lst zs)) a = some (.tup xs) := by
  rw [upd_ne (ne_of h hl (by intro z; cases z))]; exact h
theorem tup_ap {b a : Addr} {G J : Hp} {n : Nat} {xs : List V} (h : G a = some (.tup xs)) (hB : BoxAt G b n) (ap : Ap b G J) : J a = some (.tup xs) := by
  obtain ⟨x, y, z, e, _⟩ := hB
  exact ap_get ap h (ne_of h e (by intro z; cases z))
theorem ap_none {b p : Addr} {H G : Hp} {n : Nat} (ap : Ap b H G) (hB : BoxAt G b n) (hp : G p = none) : H p = none := by
  have ne := box_ne hB hp
  cases e : H p with
  | none => rfl
  | some o => rw [ap_get ap e ne] at hp; cases hp
def spHall (K : PySem.W.Frag) : Sp := fun vs H Q _ => ∃ (b : Addr) (k n : Nat), vs = [.ref b, .int (k : Nat)] ∧ k ≤ 12 ∧ BoxAt H b (n + 2 * k) ∧
  ∀ (p : Addr) (m : Nat → Nat) (G : Hp), (∀ i, m i ≤ 24) → Ap b H G → BoxAt G b n → H p = none → G p = some (.tup (rowV (2 * k) m)) → Q (.ref p) G
theorem scHall : FnScope ["_law_box_here", "_law_few", "_law_hall_here", "_law_left", "_law_low", "_law_high", "_law_mate"] ["_law_box_here", "_law_few"] (defScope sHall) := ⟨rfl, rfl, rfl, by decide +kernel, rfl, by decide +kernel, by decide +kernel⟩
theorem ok_hall {k : Nat} {g : Addr} {gd : FuncData} (F : Fun K "_law_hall" "_law_hall" sHall f fd) (B : B0 mg) (T : FnOk P w K mg base CX0 k g gd ["_law_box_here", "_law_below"] (spTake K)) (bT : Binds K gd ["_law_box_here", "_law_below"] []) (kT : PySem.W.keepIn K (.ref g) = true) (mT : mg "_law_take" = some (.ref g)) :
    FnOk P w K mg base CX0 (k + 1) f fd ["_law_box_here", "_law_few"] (spHall K) := by
  refine F.ok scHall (fun vs H Q E h => ?_) (fun cdv A outer s H vs Q E hr h => ?_)
  · obtain ⟨b, c, n, rfl, _⟩ := h; rfl
  obtain ⟨b, c, n, rfl, hc, hB, q⟩ := h
  refine ⟨_, pss_cons (ps_par (i := 2) (j := 3) (by rfl) scHall.nd rfl rfl (by decide) rfl rfl (pa_cons (pe_op op_rep (pe_lst (pa_cons pe_int pa_nil)) (pe_op op_mul pe_int (pv 1))) (pa_cons (pe_lst (pa_cons (pe_tup (pa_cons pe_int (pa_cons (pe_op op_mul pe_int (pv 1)) pa_nil))) pa_nil)) pa_nil)) (by rfl))
    (pss_cons (ps_while PassesOwn.never (pt_cmpR (op_neD hr.units) (pv 3) (pe_lst pa_nil) (nomark _))
      (pss_cons (ps_asg (pe_bm0 PySem.F.plainAttrs_list PySem.F.slot_list_pop PySem.F.type_list_pop mt_pop (pv 3)) (pg_tup rfl (pgs_cons (pg_name (i := 4) scHall.nd rfl (.inl rfl)) (pgs_cons (pg_name (i := 5) scHall.nd rfl (.inl rfl)) pgs_nil))))
      (pss_one (ps_if (pt_cmpR op_lt (pv 4) (pv 5) (nomark _))
        (pss_cons (ps_set (i := 6) scHall.nd rfl (.inl rfl) (pe_op op_add (pe_op op_add (pv 4) pe_int) (pe_op op_mul pe_int (pe_call T hr (by rfl) mT kT bT .nil pass0 (pa_cons (pv 0) (pa_cons (pe_op op_fdiv (pe_op op_sub (pv 5) (pv 4)) pe_int) pa_nil))))))
        (pss_cons (ps_asg (pe_tup (pa_cons (pv 6) (pa_cons (pv 4) pa_nil))) (pg_tup rfl (pgs_cons (pg_sub (pv 2) (pv 4) set_list) (pgs_cons (pg_sub (pv 2) (pv 6) set_list) pgs_nil))))
        (pss_one (ps_set (i := 3) scHall.nd rfl (.inl rfl) (pe_op op_cat (pv 3) (pe_lst (pa_cons (pe_tup (pa_cons (pe_op op_add (pv 4) pe_int) (pa_cons (pv 6) pa_nil))) (pa_cons (pe_tup (pa_cons (pe_op op_add (pv 6) pe_int) (pa_cons (pv 5) pa_nil))) pa_nil))))))))
        pss_nil))))
    (pss_one (ps_ret (pe_callTy call_tuple_of (by rfl) B.tuple PyProof.Rows.boot_tuple (pa_cons (pv 2) pa_nil))))), ?_⟩
  -- [0] * (2 * few), [(0, 2 * few)]
  refine ⟨(by show 1 ≤ sizeLine; decide), fun l0 n0 => ⟨_, rfl, _, _, rfl, rfl, .inl ⟨by decide, by decide⟩, l0, _, _, rfl, rfl, upd_same, by omega, by omega, ?_, fun h nh => ?_⟩⟩
  · rw [sizeLine_eq]; show 1 * ((2 : Int) * (c : Int)).toNat ≤ _; omega
  have e2c : ((2 : Int) * (c : Int)).toNat = 2 * c := by omega
  rw [e2c, rep_zero]
  refine ⟨_, rfl, _, _, rfl, rfl, .inl ⟨by decide, by decide⟩, (by show 2 ≤ sizeLine; decide), fun t nt => ⟨(by show 1 ≤ sizeLine; decide), fun l nl => ⟨_, _, rfl, ?_⟩⟩⟩
  have n0b : l0 ≠ b := box_ne hB n0
  have B1 := box_up (o := .lst [.int 0]) hB n0b
  have nhb : h ≠ b := box_ne B1 nh
  have nhH : H h = none := by
    have z := nh
    rw [upd_ne (fun q => by rw [q, upd_same] at z; cases z)] at z; exact z
  have B2 := box_up (o := .lst (natV (List.replicate (2 * c) 0))) B1 nhb
  have ntb : t ≠ b := box_ne B2 nt
  have B3 := box_up (o := .tup [.int 0, .int (2 * (c : Int))]) B2 ntb
  have nlb : l ≠ b := box_ne B3 nl
  have B4 := box_up (o := .lst [.ref t]) B3 nlb
  have s1 : Same H (upd H l0 (.lst [.int 0])) := same_new n0
  have s2 := s1.trans (same_new (o := .lst (natV (List.replicate (2 * c) 0))) nh)
  have s3 := s2.trans (same_new (o := .tup [.int 0, .int (2 * (c : Int))]) nt)
  have s4 := s3.trans (same_new (o := .lst [.ref t]) nl)
  have nlH : H l = none := s3.free nl
  refine ⟨fun m σ G => ∃ (L : List Iv) (ns : List Nat) (l : Addr) (y4 y5 y6 : Option V), m = ivLen L + L.length ∧ σ = [some (.ref b), some (.int (c : Nat)), some (.ref h), some (.ref l), y4, y5, y6] ∧ l ≠ b ∧ l ≠ h ∧ H l = none ∧ G l = some (.lst (L.map fun e => V.ref e.1)) ∧ G h = some (.lst (natV ns)) ∧ ns.length = 2 * c ∧ (∀ i ∈ ns, i ≤ 24) ∧
      (∀ e ∈ L, G e.1 = some (.tup [.int (e.2.1 : Nat), .int (e.2.2 : Nat)]) ∧ e.2.1 ≤ e.2.2 ∧ e.2.2 ≤ 2 * c ∧ (e.2.2 - e.2.1) % 2 = 0) ∧ L.length ≤ 100 ∧ ivLen L + L.length ≤ 100 ∧ Ap b H G ∧ BoxAt G b (n + ivLen L),
    ⟨_, [(t, 0, 2 * c)], List.replicate (2 * c) 0, l, none, none, none, rfl, rfl, nlb, ?_, nlH, upd_same, ?_, List.length_replicate, ?_, ?_, by simp, ?_, ap_same s4, ?_⟩, ?_⟩
  · exact fun q => by
      have z := nl
      rw [q, upd_ne (ne_of_none (upd_same (H := upd H l0 (.lst [.int 0])) (a := h) (o := .lst (natV (List.replicate (2 * c) 0)))) nt), upd_same] at z
      cases z
  · have z : (upd (upd (upd H l0 (.lst [.int 0])) h (.lst (natV (List.replicate (2 * c) 0)))) t (.tup [.int 0, .int (2 * (c : Int))])) h = some (.lst (natV (List.replicate (2 * c) 0))) := same_new nt _ _ upd_same
    exact same_new nl _ _ z
  · intro i hi
    rw [List.eq_of_mem_replicate hi]; omega
  · intro e he
    have : e = (t, 0, 2 * c) := by simpa using he
    subst this
    refine ⟨?_, Nat.zero_le _, Nat.le_refl _, by show (2 * c - 0) % 2 = 0; omega⟩
    have z : (upd (upd (upd H l0 (.lst [.int 0])) h (.lst (natV (List.replicate (2 * c) 0)))) t (.tup [.int 0, .int (2 * (c : Int))])) t = some (.tup [.int (0 : Nat), .int ((2 * c : Nat) : Int)]) := upd_same
    exact same_new nl _ _ z
  · show (2 * c - 0 + 0) + 1 ≤ 100; omega
  · exact B4.mono (by show n + (2 * c - 0 + 0) ≤ _; omega)
  rintro m σ G ⟨L, ns, l, y4, y5, y6, rfl, rfl, nlb, nlh, nlH, hl, hh, hns, hle, hL, hLl, hLs, ap, hBG⟩
  refine ⟨_, rfl, Nat.zero_le _, fun e ne => ?_⟩
  have sE : Same G (upd G e (.lst [])) := same_new ne
  have hl1 := sE l _ hl
  have hh1 := sE h _ hh
  have hB1 := hBG.same sE
  have ap1 : Ap b H (upd G e (.lst [])) := ap.trans (ap_same sE)
  have hL1 : ∀ e' ∈ L, (upd G e (.lst [])) e'.1 = some (.tup [.int (e'.2.1 : Nat), .int (e'.2.2 : Nat)]) := fun e' he => sE _ _ (hL e' he).1
  refine ⟨.list (L.map ivD), .list [], .lst (SqL.of hl1) (dp_iv fun e' he => SqT.of (hL1 e' he)), .lst (SqL.of upd_same) .nil, shaped_iv L, rfl, _, rfl, ?_⟩
  rw [eqv_iv]
  generalize upd G e (.lst []) = G1 at hl1 hh1 hB1 ap1 hL1
  cases hE : L.isEmpty with
  | true =>
    have hLe : L = [] := List.isEmpty_iff.mp hE
    subst hLe
    refine iteF ⟨_, rfl, h, _, rfl, .inl ⟨SqL.of hh1, fun p np => ?_⟩⟩
    refine q p (fun i => ns.getD i 0) _ (fun i => ?_) (ap1.trans (ap_same (same_new np))) (hB1.same (same_new np)) (ap_none ap1 hB1 np) ?_
    · by_cases hi : i < ns.length
      · rw [List.getD_eq_getElem?_getD, List.getElem?_eq_getElem hi]
        exact hle _ (List.getElem_mem hi)
      · rw [List.getD_eq_getElem?_getD, List.getElem?_eq_none (by omega)]
        exact Nat.zero_le _
    · rw [upd_same, natV_row, hns]
  | false =>
    have hne : L ≠ [] := fun z => by rw [z] at hE; cases hE
    obtain ⟨L', e0, rfl⟩ : ∃ L' e0, L = L' ++ [e0] := ⟨L.dropLast, L.getLast hne, (List.dropLast_concat_getLast hne).symm⟩
    obtain ⟨t0, lo, hi⟩ := e0
    obtain ⟨ht0, h1, h2, h3⟩ := hL (t0, lo, hi) (by simp)
    dsimp only at h1 h2 h3
    have ht1 := hL1 (t0, lo, hi) (by simp)
    have hL' : ∀ e' ∈ L', G1 e'.1 = some (.tup [.int (e'.2.1 : Nat), .int (e'.2.2 : Nat)]) := fun e' he => hL1 e' (by simp [he])
    have hlen : (L' ++ [(t0, lo, hi)]).length = L'.length + 1 := by simp
    have hiv : ivLen (L' ++ [(t0, lo, hi)]) = ivLen L' + (hi - lo) := by rw [ivLen_app]; show _ + (hi - lo + 0) = _; omega
    rw [List.map_append] at hl1
    refine iteT ⟨fun σ' G' => ∃ m', m' < ivLen (L' ++ [(t0, lo, hi)]) + (L' ++ [(t0, lo, hi)]).length ∧ ∃ (L : List Iv) (ns : List Nat) (l : Addr) (y4 y5 y6 : Option V), m' = ivLen L + L.length ∧ σ' = [some (.ref b), some (.int (c : Nat)), some (.ref h), some (.ref l), y4, y5, y6] ∧ l ≠ b ∧ l ≠ h ∧ H l = none ∧ G' l = some (.lst (L.map fun e => V.ref e.1)) ∧ G' h = some (.lst (natV ns)) ∧ ns.length = 2 * c ∧ (∀ i ∈ ns, i ≤ 24) ∧
      (∀ e ∈ L, G' e.1 = some (.tup [.int (e.2.1 : Nat), .int (e.2.2 : Nat)]) ∧ e.2.1 ≤ e.2.2 ∧ e.2.2 ≤ 2 * c ∧ (e.2.2 - e.2.1) % 2 = 0) ∧ L.length ≤ 100 ∧ ivLen L + L.length ≤ 100 ∧ Ap b H G' ∧ BoxAt G' b (n + ivLen L), fun σ' G' z => z, ?_⟩
    -- low, high = left.pop()
    refine ⟨_, rfl, .inl ⟨rfl, _, SqL.of hl1⟩, l, _, _, rfl, rfl, hl1, last_some, ?_⟩
    have dl : ((L'.map fun e => V.ref e.1) ++ [V.ref t0]).dropLast = L'.map fun e => V.ref e.1 := by simp
    show gTup _ 2 _ (V.ref t0) _ (upd G1 l (.lst ((L'.map fun e => V.ref e.1) ++ [V.ref t0]).dropLast)) _
    rw [dl]
    have hl2 : (upd G1 l (.lst (L'.map fun e => V.ref e.1))) l = some (.lst (L'.map fun e => V.ref e.1)) := upd_same
    have hh2 : (upd G1 l (.lst (L'.map fun e => V.ref e.1))) h = some (.lst (natV ns)) := by rw [upd_ne nlh.symm]; exact hh1
    have ht2 : (upd G1 l (.lst (L'.map fun e => V.ref e.1))) t0 = some (.tup [.int (lo : Nat), .int (hi : Nat)]) := tup_up ht1 hl1
    have hL2 : ∀ e' ∈ L', (upd G1 l (.lst (L'.map fun e => V.ref e.1))) e'.1 = some (.tup [.int (e'.2.1 : Nat), .int (e'.2.2 : Nat)]) := fun e' he => tup_up (hL' e' he) hl1
    have hB2 := box_up (o := .lst (L'.map fun e => V.ref e.1)) hB1 nlb
    have ap2 : Ap b H (upd G1 l (.lst (L'.map fun e => V.ref e.1))) := ap_up ap1 nlH
    generalize upd G1 l (.lst (L'.map fun e => V.ref e.1)) = G2 at hl2 hh2 ht2 hL2 hB2 ap2
    refine ⟨t0, _, rfl, SqT.of ht2, rfl, _, _, rfl, _, _, rfl, rfl, ?_⟩
    refine ⟨_, rfl, _, rfl, _, _, rfl, rfl, _, rfl, ite2 (fun cc => ?_) (fun cc => ?_)⟩
    · have lt : lo < hi := by have := of_decide_eq_true cc; omega
      refine ⟨_, rfl, _, _, rfl, rfl, _, rfl, _, rfl, _, rfl, _, _, rfl, rfl, _, _, rfl, rfl, ⟨by decide, by decide⟩, b, _, n + ivLen L' + (hi - lo) - 1, rfl, ?_, ?_, ?_, fun r G3 r0 r1 ap3 hB3 => ?_⟩
      · show (0 : Int) < ((hi : Int) - (lo : Int)) / 2; omega
      · show ((hi : Int) - (lo : Int)) / 2 ≤ 10000000; omega
      · rw [hiv] at hB2; exact hB2.mono (by omega)
      have r1' : r < ((hi : Int) - (lo : Int)) / 2 := r1
      obtain ⟨rn, rfl⟩ := Int.eq_ofNat_of_zero_le r0
      refine ⟨_, _, rfl, rfl, .inl ⟨by decide, by decide⟩, _, _, rfl, rfl, ?_⟩
      show gName 6 (V.int ((lo : Int) + 1 + 2 * (rn : Int))) _ _ _
      have em : (lo : Int) + 1 + 2 * (rn : Int) = ((lo + 1 + 2 * rn : Nat) : Int) := by omega
      rw [em]
      obtain ⟨mt, hmt⟩ : ∃ mt, mt = lo + 1 + 2 * rn := ⟨_, rfl⟩
      rw [← hmt]
      have mlt : mt < hi := by omega
      have hl3 := ap_get ap3 hl2 nlb
      have hh3 := ap_get ap3 hh2 nhb
      have hL3 : ∀ e' ∈ L', G3 e'.1 = some (.tup [.int (e'.2.1 : Nat), .int (e'.2.2 : Nat)]) := fun e' he => tup_ap (hL2 e' he) hB2 ap3
      have apH3 := ap2.trans ap3
      -- hall[low], hall[mate] = (mate, low)
      refine ⟨_, rfl, _, rfl, (by show 2 ≤ sizeLine; decide), fun u nu => ?_⟩
      have sU : Same G3 (upd G3 u (.tup [.int (mt : Nat), .int (lo : Nat)])) := same_new nu
      have hhU := sU h _ hh3
      have hlU := sU l _ hl3
      have hLU : ∀ e' ∈ L', _ := fun e' he => sU _ _ (hL3 e' he)
      have apU := apH3.trans (ap_same sU)
      have BU := hB3.same sU
      have ix1 : ixN (natV ns).length (lo : Int) = some lo := by
        unfold ixN natV; rw [if_pos (by omega), if_pos (by rw [List.length_map, hns]; omega)]; congr 1
      have ix2 : ixN ((natV ns).set lo (.int (mt : Nat))).length (mt : Int) = some mt := by
        unfold ixN natV; rw [if_pos (by omega), if_pos (by rw [List.length_set, List.length_map, hns]; omega)]; congr 1
      refine ⟨u, _, rfl, SqT.of upd_same, rfl, _, _, rfl, _, rfl, _, rfl, h, _, _, lo, rfl, rfl, hhU, ix1, _, _, rfl, _, rfl, _, rfl, h, _, _, mt, rfl, rfl, upd_same, ix2, rfl, ?_⟩
      rw [upd_upd, natV_set, natV_set]
      have hh4 : (upd (upd G3 u (.tup [.int (mt : Nat), .int (lo : Nat)])) h (.lst (natV ((ns.set lo mt).set mt lo)))) h = some (.lst (natV ((ns.set lo mt).set mt lo))) := upd_same
      have hl4 : (upd (upd G3 u (.tup [.int (mt : Nat), .int (lo : Nat)])) h (.lst (natV ((ns.set lo mt).set mt lo)))) l = some (.lst (L'.map fun e => V.ref e.1)) := by rw [upd_ne nlh]; exact hlU
      have hL4 : ∀ e' ∈ L', (upd (upd G3 u (.tup [.int (mt : Nat), .int (lo : Nat)])) h (.lst (natV ((ns.set lo mt).set mt lo)))) e'.1 = some (.tup [.int (e'.2.1 : Nat), .int (e'.2.2 : Nat)]) := fun e' he => tup_up (hLU e' he) hhU
      have ap4 : Ap b H (upd (upd G3 u (.tup [.int (mt : Nat), .int (lo : Nat)])) h (.lst (natV ((ns.set lo mt).set mt lo)))) := ap_up apU nhH
      have B4' := box_up (o := .lst (natV ((ns.set lo mt).set mt lo))) BU nhb
      generalize upd (upd G3 u (.tup [.int (mt : Nat), .int (lo : Nat)])) h (.lst (natV ((ns.set lo mt).set mt lo))) = G4 at hh4 hl4 hL4 ap4 B4'
      -- left = left + [(low + 1, mate), (mate + 1, high)]
      refine ⟨_, rfl, _, rfl, _, _, rfl, rfl, _, rfl, (by show 2 ≤ sizeLine; decide), fun t1 n1 => ⟨_, rfl, _, _, rfl, rfl, _, rfl, (by show 2 ≤ sizeLine; decide), fun t2 n2 => ⟨(by show 2 ≤ sizeLine; decide), fun l2 nl2 => ?_⟩⟩⟩
      have S1 : Same G4 (upd G4 t1 (.tup [.int ((lo + 1 : Nat) : Int), .int (mt : Nat)])) := same_new n1
      have S2 : Same (upd G4 t1 (.tup [.int ((lo + 1 : Nat) : Int), .int (mt : Nat)])) (upd (upd G4 t1 (.tup [.int ((lo + 1 : Nat) : Int), .int (mt : Nat)])) t2 (.tup [.int ((mt + 1 : Nat) : Int), .int (hi : Nat)])) := same_new n2
      have S3 : Same (upd (upd G4 t1 (.tup [.int ((lo + 1 : Nat) : Int), .int (mt : Nat)])) t2 (.tup [.int ((mt + 1 : Nat) : Int), .int (hi : Nat)])) (upd (upd (upd G4 t1 (.tup [.int ((lo + 1 : Nat) : Int), .int (mt : Nat)])) t2 (.tup [.int ((mt + 1 : Nat) : Int), .int (hi : Nat)])) l2 (.lst [.ref t1, .ref t2])) := same_new nl2
      have hT1 := S3 _ _ (S2 _ _ (upd_same (H := G4) (a := t1) (o := .tup [.int ((lo + 1 : Nat) : Int), .int (mt : Nat)])))
      have hT2 := S3 _ _ (upd_same (H := upd G4 t1 (.tup [.int ((lo + 1 : Nat) : Int), .int (mt : Nat)])) (a := t2) (o := .tup [.int ((mt + 1 : Nat) : Int), .int (hi : Nat)]))
      have S := (S1.trans S2).trans S3
      refine ⟨l, l2, _, _, rfl, rfl, S _ _ hl4, upd_same, ?_, fun l3 nl3 => ?_⟩
      · rw [List.length_map]
        show L'.length + 2 ≤ sizeLine
        exact sizeBig (by omega)
      have S4 := same_new (o := .lst ((L'.map fun e => V.ref e.1) ++ [.ref t1, .ref t2])) nl3
      have SS := S.trans S4
      have B5 := B4'.same S
      have nl3b : l3 ≠ b := box_ne B5 nl3
      refine ⟨_, ?_, L' ++ [(t1, lo + 1, mt), (t2, mt + 1, hi)], (ns.set lo mt).set mt lo, l3, _, _, _, rfl, rfl, nl3b, ?_, ?_, ?_, SS _ _ hh4, ?_, ?_, ?_, ?_, ?_, ap4.trans (ap_same SS), ?_⟩
      · rw [ivLen_app, hiv, hlen, List.length_append]
        show ivLen L' + ((mt - (lo + 1)) + ((hi - (mt + 1)) + 0)) + (L'.length + 2) < _
        omega
      · exact (ne_of_none (S _ _ hh4) nl3).symm
      · exact (S.free nl3 |> fun z => ap_none ap4 B4' z)
      · rw [upd_same, List.map_append]; rfl
      · rw [List.length_set, List.length_set]; exact hns
      · intro i hi'
        have z1 := List.mem_or_eq_of_mem_set hi'
        rcases z1 with z1 | z1
        · rcases List.mem_or_eq_of_mem_set z1 with z2 | z2
          · exact hle i z2
          · omega
        · omega
      · intro e' he
        rcases List.mem_append.mp he with z | z
        · have zz := hL e' (by simp [z])
          exact ⟨SS _ _ (hL4 e' z), zz.2⟩
        · have z' : e' = (t1, lo + 1, mt) ∨ e' = (t2, mt + 1, hi) := by simpa using z
          rcases z' with rfl | rfl
          · exact ⟨S4 _ _ hT1, by show lo + 1 ≤ mt; omega, by show mt ≤ 2 * c; omega, by show (mt - (lo + 1)) % 2 = 0; omega⟩
          · exact ⟨S4 _ _ hT2, by show mt + 1 ≤ hi; omega, h2, by show (hi - (mt + 1)) % 2 = 0; omega⟩
      · rw [List.length_append]; show L'.length + 2 ≤ 100; omega
      · rw [ivLen_app, List.length_append]
        show ivLen L' + ((mt - (lo + 1)) + ((hi - (mt + 1)) + 0)) + (L'.length + 2) ≤ 100
        omega
      · refine (B5.same S4).mono ?_
        rw [ivLen_app]
        show n + (ivLen L' + ((mt - (lo + 1)) + ((hi - (mt + 1)) + 0))) ≤ _
        omega
    · refine ⟨_, ?_, L', ns, l, _, _, _, rfl, rfl, nlb, nlh, nlH, hl2, hh2, hns, hle, fun e' he => ⟨hL2 e' he, (hL e' (by simp [he])).2⟩, by omega, by omega, ap2, hB2.mono (by rw [hiv]; omega)⟩
      rw [hiv, hlen]; omega
end
end K01

set_option Elab.async false
set_option linter.all false
set_option maxRecDepth 100000
set_option maxHeartbeats 4000000
namespace K01
open PySem PySem.Spec PyProof.Rows L2 Hs Hm
/-- data of depth at most k whose text has at most c signs -/
structure Sm (k c : Nat) (d : PyData) : Prop where
  sh : d.canLay0 = true
  sw : d.showable = true
  nd : d.hasDict = false
  dp : d.depth ≤ k
  ln : d.shown.length ≤ c
theorem Sm.mono {k c k' c' : Nat} {d : PyData} (h : Sm k c d) (hk : k ≤ k') (hc : c ≤ c') : Sm k' c' d := ⟨h.sh, h.sw, h.nd, Nat.le_trans h.dp hk, Nat.le_trans h.ln hc⟩
theorem sm_none : Sm 0 50 .none := ⟨rfl, rfl, rfl, Nat.le_refl _, by show (Str.ofString "None").length ≤ 50; rw [PySem.ofString_length]; decide⟩
theorem sm_bool (b : Bool) : Sm 0 50 (.bool b) := by
  refine ⟨rfl, rfl, rfl, Nat.le_refl _, ?_⟩
  cases b
  · show (Str.ofString "False").length ≤ 50; rw [PySem.ofString_length]; decide
  · show (Str.ofString "True").length ≤ 50; rw [PySem.ofString_length]; decide
theorem sm_int {i : Int} (h : i.natAbs < 10 ^ 40) : Sm 0 50 (.int i) := by
  refine ⟨rfl, ?_, rfl, Nat.le_refl _, ?_⟩
  · refine decide_eq_true ?_
    by_cases h0 : i.natAbs = 0
    · rw [h0]; decide
    · exact (Nat.log2_lt h0).mpr (Nat.lt_of_lt_of_le h (Nat.le_trans (by decide : 10 ^ 40 ≤ 2 ^ 200) (Nat.pow_le_pow_right (by decide) (by decide))))
  · show (Str.ofString (toString i)).length ≤ 50
    rw [PySem.ofString_length]
    exact Nat.le_trans (int_text_length_le10 (k := 40) (by decide) h) (by decide)
theorem str_app (x y : Str) : (x ++ y).length = x.length + y.length := by
  first
    | exact Str.length_append x y
    | (show (x.cps ++ y.cps).size = _; simp [Str.length])
theorem textFrom_le {c : Nat} : ∀ (ts : List Str) (k : Nat) (acc : Str), (∀ t ∈ ts, t.length ≤ c) → (textFrom k acc ts).length ≤ acc.length + (c + 2) * ts.length
  | [], k, acc, _ => by show acc.length ≤ acc.length + _; omega
  | t :: ts, k, acc, h => by
    have ih := textFrom_le ts (k + 1) (acc ++ (if k > 0 then ", " else "" : String) ++ t) fun x hx => h x (by simp [hx])
    show (textFrom (k + 1) (acc ++ (if k > 0 then ", " else "" : String) ++ t) ts).length ≤ _
    have e : (acc ++ (if k > 0 then ", " else "" : String) ++ t).length ≤ acc.length + 2 + c := by
      rw [str_app, str_app]
      have h1 := h t (by simp)
      have h2 : (Str.ofString (if k > 0 then ", " else "" : String)).length ≤ 2 := by
        rw [PySem.ofString_length]; split <;> decide
      have h2' : ((if k > 0 then ", " else "" : String) : Str).length ≤ 2 := h2
      omega
    rw [List.length_cons, Nat.mul_add]
    omega
theorem join_le {c : Nat} : ∀ ts : List Str, (∀ t ∈ ts, t.length ≤ c) → (Str.join ", " ts).length ≤ (c + 2) * ts.length
  | [], _ => by show (Str.join ", " []).length ≤ _; exact Nat.zero_le _
  | [x], h => by
    show x.length ≤ (c + 2) * 1
    have := h x (by simp); omega
  | x :: y :: r, h => by
    have ih := join_le (y :: r) fun t ht => h t (by simp at ht ⊢; exact .inr ht)
    show (x ++ ", " ++ Str.join ", " (y :: r)).length ≤ _
    rw [str_app, str_app]
    have h1 := h x (by simp)
    have h2 : ((", " : String) : Str).length = 2 := by show (Str.ofString ", ").length = 2; rw [PySem.ofString_length]; decide
    rw [List.length_cons, Nat.mul_add]
    omega
theorem shownAll_mem {c : Nat} : ∀ {ds : List PyData}, (∀ d ∈ ds, d.shown.length ≤ c) → (∀ t ∈ PyData.shownAll ds, t.length ≤ c) ∧ (PyData.shownAll ds).length = ds.length
  | [], _ => ⟨(fun _ h => nomatch h), rfl⟩
  | d :: ds, h => by
    obtain ⟨a, b⟩ := shownAll_mem (ds := ds) fun e he => h e (by simp [he])
    refine ⟨fun t ht => ?_, by show (PyData.shownAll ds).length + 1 = _; rw [b]; rfl⟩
    have ht' : t = d.shown ∨ t ∈ PyData.shownAll ds := by
      have z : t ∈ d.shown :: PyData.shownAll ds := ht
      simpa using z
    rcases ht' with rfl | z
    · exact h d (by simp)
    · exact a t z
theorem sm_all {k c : Nat} : ∀ {ds : List PyData}, (∀ d ∈ ds, Sm k c d) → PyData.canLayAll0 ds = true ∧ PyData.showableAll ds = true ∧ PyData.hasDictAll ds = false ∧ PyData.depthAll ds ≤ k
  | [], _ => ⟨rfl, rfl, rfl, Nat.zero_le _⟩
  | d :: ds, h => by
    obtain ⟨a1, a2, a3, a4⟩ := sm_all (ds := ds) fun e he => h e (by simp [he])
    have b := h d (by simp)
    refine ⟨?_, ?_, ?_, Nat.max_le.mpr ⟨b.dp, a4⟩⟩
    · show (d.canLay0 && PyData.canLayAll0 ds) = true; rw [b.sh, a1]; rfl
    · show (d.showable && PyData.showableAll ds) = true; rw [b.sw, a2]; rfl
    · show (d.hasDict || PyData.hasDictAll ds) = false; rw [b.nd, a3]; rfl
theorem sm_tuple {k c n : Nat} {ds : List PyData} (h : ∀ d ∈ ds, Sm k c d) (hn : ds.length ≤ n) : Sm (k + 1) ((c + 2) * n + 4) (.tuple ds) := by
  obtain ⟨a1, a2, a3, a4⟩ := sm_all h
  obtain ⟨b1, b2⟩ := shownAll_mem fun d hd => (h d hd).ln
  refine ⟨a1, a2, a3, Nat.succ_le_succ a4, ?_⟩
  show (tupleText (PyData.shownAll ds)).length ≤ _
  unfold tupleText
  rw [str_app, str_app]
  have j := join_le _ b1
  rw [b2] at j
  have h2 : ((if (PyData.shownAll ds).length == 1 then ",)" else ")" : String) : Str).length ≤ 2 := by
    show (Str.ofString _).length ≤ 2
    rw [PySem.ofString_length]; split <;> decide
  have h3 : (("(" : String) : Str).length = 1 := by show (Str.ofString "(").length = 1; rw [PySem.ofString_length]; decide
  have h4 : (c + 2) * ds.length ≤ (c + 2) * n := Nat.mul_le_mul_left _ hn
  omega
theorem sm_list {k c n : Nat} {ds : List PyData} (h : ∀ d ∈ ds, Sm k c d) (hn : ds.length ≤ n) : Sm (k + 1) ((c + 2) * n + 4) (.list ds) := by
  obtain ⟨a1, a2, a3, a4⟩ := sm_all h
  obtain ⟨b1, b2⟩ := shownAll_mem fun d hd => (h d hd).ln
  refine ⟨a1, a2, a3, Nat.succ_le_succ a4, ?_⟩
  show (listText (PyData.shownAll ds)).length ≤ _
  unfold listText
  rw [str_app]
  have j := textFrom_le _ 0 "[" b1
  rw [b2] at j
  have h2 : (("]" : String) : Str).length = 1 := by show (Str.ofString "]").length = 1; rw [PySem.ofString_length]; decide
  have h3 : (("[" : String) : Str).length = 1 := by show (Str.ofString "[").length = 1; rw [PySem.ofString_length]; decide
  have h4 : (c + 2) * ds.length ≤ (c + 2) * n := Nat.mul_le_mul_left _ hn
  omega
end K01

set_option Elab.async false
set_option linter.all false
set_option maxRecDepth 100000
set_option maxHeartbeats 4000000
namespace K01
open PySem PySem.Spec PyProof.Rows L2 Hs Hm
theorem cps_small (s : String) : ∀ c ∈ (Str.ofString s).cps.toList, c < 0x110000 := by
  rw [Str.ofString_eq_toList]
  intro c hc
  have z : c ∈ s.toList.map Char.toNat := by simpa using hc
  obtain ⟨ch, _, rfl⟩ := List.mem_map.mp z
  have v := ch.valid
  have e : ch.toNat = ch.val.toNat := rfl
  rw [e]
  have : ch.val.toNat < 0x110000 := by
    rcases v with h | ⟨_, h⟩
    · exact Nat.lt_trans h (by decide)
    · exact h
  exact this
theorem strOk_ofString (s : String) : PyData.canLay0 (.str (Str.ofString s)) = true := by
  show ((Str.ofString s).cps.all (· < 0x110000)) = true
  rw [← Array.all_toList, List.all_eq_true]
  intro c hc
  exact decide_eq_true (cps_small s c hc)
theorem sm_str {s : String} (h : s.length ≤ 100) : Sm 0 1100 (.str (Str.ofString s)) := by
  refine ⟨strOk_ofString s, rfl, rfl, Nat.le_refl _, ?_⟩
  show (reprText (Str.ofString s)).length ≤ 1100
  have z := StrLaws.reprText_len (Str.ofString s) (fun c hc => Nat.lt_trans (cps_small s c hc) (by decide))
  rw [PySem.ofString_length] at z
  omega
section
variable {P : Program} {w : World} {K : PySem.W.Frag} {mg : Str → Option Value} {base : Heap} {f : Addr} {fd : FuncData}
/-! ### seated -/
def spSeated (K : PySem.W.Frag) : Sp := fun vs H Q _ => ∃ (a : Addr) (n : Nat) (L : List Iv), vs = [.int (n : Nat), .ref a] ∧ n ≤ 24 ∧ SqL K H a (L.map fun e => V.ref e.1) ∧ (∀ e ∈ L, H e.1 = some (.tup [.int (e.2.1 : Nat), .int (e.2.2 : Nat)]) ∧ e.2.1 < n ∧ e.2.2 < n) ∧
  ∀ (p : Addr) (m : Nat → Nat) (G : Hp), (∀ i, m i ≤ 24) → Same H G → G p = some (.tup (rowV n m)) → Q (.ref p) G
theorem scSeated : FnScope ["_law_size", "_law_duos", "_law_hall_here", "_law_low", "_law_high"] ["_law_size", "_law_duos"] (defScope sSeated) := ⟨rfl, rfl, rfl, by decide +kernel, rfl, by decide +kernel, by decide +kernel⟩
theorem row_of {ns : List Nat} (h : ∀ i ∈ ns, i ≤ 24) (i : Nat) : ns.getD i 0 ≤ 24 := by
  by_cases hi : i < ns.length
  · rw [List.getD_eq_getElem?_getD, List.getElem?_eq_getElem hi]; exact h _ (List.getElem_mem hi)
  · rw [List.getD_eq_getElem?_getD, List.getElem?_eq_none (by omega)]; exact Nat.zero_le _
theorem ok_seated {k : Nat} (F : Fun K "_law_seated" "_law_seated" sSeated f fd) (B : B0 mg) : FnOk P w K mg base CX0 (k + 1) f fd ["_law_size", "_law_duos"] (spSeated K) := by
  refine F.ok scSeated (fun vs H Q E h => ?_) (fun cdv A outer s H vs Q E hr h => ?_)
  · obtain ⟨a, n, L, rfl, _⟩ := h; rfl
  obtain ⟨a, n, L, rfl, hn, hS, hL, q⟩ := h
  refine ⟨_, pss_cons (ps_set (i := 2) scSeated.nd rfl (.inl rfl) (pe_op op_rep (pe_lst (pa_cons pe_int pa_nil)) (pv 0)))
    (pss_cons (ps_for PassesOwn.never rfl (pi_list (pv 1)) (pg_tup rfl (pgs_cons (pg_name (i := 3) scSeated.nd rfl (.inl rfl)) (pgs_cons (pg_name (i := 4) scSeated.nd rfl (.inl rfl)) pgs_nil)))
      (pss_one (ps_asg (pe_tup (pa_cons (pv 4) (pa_cons (pv 3) pa_nil))) (pg_tup rfl (pgs_cons (pg_sub (pv 2) (pv 3) set_list) (pgs_cons (pg_sub (pv 2) (pv 4) set_list) pgs_nil))))))
    (pss_one (ps_ret (pe_callTy call_tuple_of (by rfl) B.tuple PyProof.Rows.boot_tuple (pa_cons (pv 2) pa_nil))))), ?_⟩
  refine ⟨(by show 1 ≤ sizeLine; decide), fun l0 n0 => ⟨_, rfl, l0, _, _, rfl, rfl, upd_same, by omega, by omega, ?_, fun h nh => ?_⟩⟩
  · rw [sizeLine_eq]; show 1 * ((n : Int)).toNat ≤ _; omega
  have en : ((n : Int)).toNat = n := by omega
  rw [en, rep_zero]
  have s1 : Same H (upd H l0 (.lst [.int 0])) := same_new n0
  have s2 := s1.trans (same_new (o := .lst (natV (List.replicate n 0))) nh)
  have nhH : H h = none := s1.free nh
  refine ⟨_, rfl, a, rfl, ⟨_, s2.seq hS⟩, for_it (walk_list (K := K) (a := a) (xs := L.map fun (e : Iv) => V.ref e.1)) (fun i σ G => (∃ (ns : List Nat) (y3 y4 : Option V), σ = [some (.int (n : Nat)), some (.ref a), some (.ref h), y3, y4] ∧ G h = some (.lst (natV ns)) ∧ ns.length = n ∧ (∀ i ∈ ns, i ≤ 24)) ∧ Same H G)
    ⟨⟨List.replicate n 0, none, none, rfl, upd_same, List.length_replicate, fun i hi => by rw [List.eq_of_mem_replicate hi]; omega⟩, s2⟩ (fun i σ G _ p => p.2.seq hS) (fun i x σ G G' hi p y => ?_) (fun σ G p => ?_)⟩
  · obtain ⟨⟨ns, y3, y4, rfl, hh, hns, hle⟩, sm⟩ := p
    obtain ⟨rfl, ex⟩ := y
    rw [List.getElem?_map] at ex
    obtain ⟨e, he, rfl⟩ := Option.map_eq_some_iff.mp ex
    obtain ⟨h1, h2, h3⟩ := hL e (List.mem_of_getElem? he)
    refine ⟨e.1, _, rfl, SqT.of (sm _ _ h1), rfl, _, _, rfl, _, _, rfl, rfl, ?_⟩
    refine ⟨_, rfl, _, rfl, (by show 2 ≤ sizeLine; decide), fun u nu => ?_⟩
    have sU := sm.trans (same_new (o := .tup [.int (e.2.2 : Nat), .int (e.2.1 : Nat)]) nu)
    have hhU : (upd G' u (.tup [.int (e.2.2 : Nat), .int (e.2.1 : Nat)])) h = some (.lst (natV ns)) := same_new nu _ _ hh
    have ix1 : ixN (natV ns).length (e.2.1 : Int) = some e.2.1 := by
      unfold ixN natV; rw [if_pos (by omega), if_pos (by rw [List.length_map, hns]; omega)]; congr 1
    have ix2 : ixN ((natV ns).set e.2.1 (.int (e.2.2 : Nat))).length (e.2.2 : Int) = some e.2.2 := by
      unfold ixN natV; rw [if_pos (by omega), if_pos (by rw [List.length_set, List.length_map, hns]; omega)]; congr 1
    refine ⟨u, _, rfl, SqT.of upd_same, rfl, _, _, rfl, _, rfl, _, rfl, h, _, _, e.2.1, rfl, rfl, hhU, ix1, _, _, rfl, _, rfl, _, rfl, h, _, _, e.2.2, rfl, rfl, upd_same, ix2, rfl, ?_⟩
    rw [upd_upd, natV_set, natV_set]
    refine ⟨⟨_, _, _, rfl, upd_same, ?_, ?_⟩, same_grow nhH sU⟩
    · rw [List.length_set, List.length_set]; exact hns
    · intro i hi'
      rcases List.mem_or_eq_of_mem_set hi' with z1 | z1
      · rcases List.mem_or_eq_of_mem_set z1 with z2 | z2
        · exact hle i z2
        · omega
      · omega
  · obtain ⟨⟨ns, y3, y4, rfl, hh, hns, hle⟩, sm⟩ := p
    refine ⟨_, rfl, h, _, rfl, .inl ⟨SqL.of hh, fun p np => ?_⟩⟩
    refine q p (fun i => ns.getD i 0) _ (row_of hle) (sm.trans (same_new np)) ?_
    rw [upd_same, natV_row, hns]
end
end K01

set_option Elab.async false
set_option linter.all false
set_option maxRecDepth 100000
set_option maxHeartbeats 4000000
namespace K01
open PySem PySem.Spec PyProof.Rows L2 Hs Hm
/-- what is new in G beside H -/
def nw (H G : Hp) : Hp := fun a => match H a with | none => G a | some _ => none
theorem nw_at {H G : Hp} {a : Addr} (h : H a = none) : nw H G a = G a := by unfold nw; rw [h]
theorem nw_old {H G : Hp} {a : Addr} {o : HO} (h : H a = some o) : nw H G a = none := by unfold nw; rw [h]
theorem nw_get {H G : Hp} {a : Addr} {o : HO} (h : nw H G a = some o) : H a = none ∧ G a = some o := by
  cases e : H a with
  | none => rw [nw_at e] at h; exact ⟨rfl, h⟩
  | some u => rw [nw_old e] at h; cases h
theorem nw_same (H G : Hp) : Same (nw H G) G := fun a o h => (nw_get h).2
theorem nw_to {H G H' G' : Hp} (h : ∀ a o, H a = none → G a = some o → H' a = none ∧ G' a = some o) : Same (nw H G) (nw H' G') := fun a o e => by
  obtain ⟨e1, e2⟩ := nw_get e
  obtain ⟨z1, z2⟩ := h a o e1 e2
  rw [nw_at z1]; exact z2
/-- data that a law may ask about -/
structure Fine (d : PyData) : Prop where
  sm : Sm 4 100000 d
  tp : ∀ ds, d = .tuple ds → ds.length ≤ 100
theorem fine_small {k c : Nat} {d : PyData} (h : Sm k c d) (hk : k ≤ 1) (hc : c ≤ 2000) (tp : ∀ ds, d = .tuple ds → ds.length ≤ 100) : Fine d := ⟨h.mono (by omega) (by omega), tp⟩
theorem sm0 {d : PyData} (h : Sm 0 50 d) : Sm 1 2000 d := h.mono (by decide) (by decide)
/-- the odd things -/
theorem odd_ok {K : PySem.W.Frag} {G : Hp} {p1 p2 p3 p4 p5 p6 : Addr} (h1 : G p1 = some (.tup [])) (h2 : G p2 = some (.lst [])) (h3 : G p3 = some (.tup [.int 0])) (h4 : G p4 = some (.lst [.int 0])) (h5 : G p5 = some (.tup [.int 1, .int 0])) (h6 : G p6 = some (.tup [.int 0, .int 1])) :
    ∀ x ∈ [V.non, .bl true, .bl false, .int (-1), .int 0, .int 1, .str "", .str "arm", .ref p1, .ref p2, .ref p3, .ref p4, .ref p5, .ref p6, .int (10 ^ (30 : Int).toNat)], ∃ d, Dp K G x d ∧ Sm 1 2000 d ∧ ∀ ds, d = .tuple ds → ds.length ≤ 100 := by
  intro x hx
  have z0 : Sm 0 50 (.int 0) := sm_int (by decide)
  have z1 : Sm 0 50 (.int 1) := sm_int (by decide)
  simp only [List.mem_cons, List.mem_nil_iff, or_false] at hx
  rcases hx with rfl | rfl | rfl | rfl | rfl | rfl | rfl | rfl | rfl | rfl | rfl | rfl | rfl | rfl | rfl
  · exact ⟨_, .non, sm0 sm_none, fun _ z => nomatch z⟩
  · exact ⟨_, .bl _, sm0 (sm_bool _), fun _ z => nomatch z⟩
  · exact ⟨_, .bl _, sm0 (sm_bool _), fun _ z => nomatch z⟩
  · exact ⟨_, .int _, sm0 (sm_int (by decide)), fun _ z => nomatch z⟩
  · exact ⟨_, .int _, sm0 z0, fun _ z => nomatch z⟩
  · exact ⟨_, .int _, sm0 z1, fun _ z => nomatch z⟩
  · exact ⟨_, .str _, (sm_str (s := "") (by decide)).mono (by decide) (by decide), fun _ z => nomatch z⟩
  · exact ⟨_, .str _, (sm_str (s := "arm") (by decide)).mono (by decide) (by decide), fun _ z => nomatch z⟩
  · exact ⟨.tuple [], .tup (SqT.of h1) .nil, (sm_tuple (k := 0) (c := 50) (n := 2) (fun d hd => by simp at hd) (by decide)).mono (by decide) (by decide), fun ds z => by cases z; decide⟩
  · exact ⟨.list [], .lst (SqL.of h2) .nil, (sm_list (k := 0) (c := 50) (n := 2) (fun d hd => by simp at hd) (by decide)).mono (by decide) (by decide), fun _ z => nomatch z⟩
  · exact ⟨.tuple [.int 0], .tup (SqT.of h3) (.cons (.int _) .nil), (sm_tuple (k := 0) (c := 50) (n := 2) (fun d hd => by simp at hd; rw [hd]; exact z0) (by decide)).mono (by decide) (by decide), fun ds z => by cases z; decide⟩
  · exact ⟨.list [.int 0], .lst (SqL.of h4) (.cons (.int _) .nil), (sm_list (k := 0) (c := 50) (n := 2) (fun d hd => by simp at hd; rw [hd]; exact z0) (by decide)).mono (by decide) (by decide), fun _ z => nomatch z⟩
  · exact ⟨.tuple [.int 1, .int 0], .tup (SqT.of h5) (.cons (.int _) (.cons (.int _) .nil)), (sm_tuple (k := 0) (c := 50) (n := 2) (fun d hd => by simp at hd; rcases hd with rfl | rfl; exact z1; exact z0) (by decide)).mono (by decide) (by decide), fun ds z => by cases z; decide⟩
  · exact ⟨.tuple [.int 0, .int 1], .tup (SqT.of h6) (.cons (.int _) (.cons (.int _) .nil)), (sm_tuple (k := 0) (c := 50) (n := 2) (fun d hd => by simp at hd; rcases hd with rfl | rfl; exact z0; exact z1) (by decide)).mono (by decide) (by decide), fun ds z => by cases z; decide⟩
  · exact ⟨_, .int _, sm0 (sm_int (by decide)), fun _ z => nomatch z⟩
theorem and_split {c : Bool} {A : Prop} {Q : Bool → Hp → Prop} {G : Hp} (h1 : c = true → A) (h2 : Q false G) : if c = true then A else Q false G := by
  cases c with
  | true => exact iteT (h1 rfl)
  | false => exact iteF h2
section
variable {P : Program} {w : World} {K : PySem.W.Frag} {mg : Str → Option Value} {base : Heap} {f : Addr} {fd : FuncData}
def spBent0 (K : PySem.W.Frag) : Sp := fun vs H Q _ => ∃ (b : Addr) (v : Nat) (n : Nat), vs = [.ref b, .int (v : Nat)] ∧ v ≤ 24 ∧ BoxAt H b (n + 2) ∧ ∀ x d G, Dp K (nw H G) x d → Sm 1 2000 d → Ap b H G → BoxAt G b n → Q x G
theorem scBent : FnScope ["_law_box_here", "_law_part", "_law_way", "_law_at", "_law_some", "_law_odd"] ["_law_box_here", "_law_part"] (defScope sBent) := ⟨rfl, rfl, rfl, by decide +kernel, rfl, by decide +kernel, by decide +kernel⟩
theorem ok_bent0 {k : Nat} {g go : Addr} {gd god : FuncData} {spR : Sp} (F : Fun K "_law_bent" "_law_bent" sBent f fd) (B : B0 mg) (ms : mg "str" = none) (bF : Binds K fd ["_law_box_here", "_law_part"] []) (mF : mg "_law_bent" = some (.ref f)) (R : FnOk P w K mg base CX0 k f fd ["_law_box_here", "_law_part"] spR)
    (T : FnOk P w K mg base CX0 k g gd ["_law_box_here", "_law_below"] (spTake K)) (bT : Binds K gd ["_law_box_here", "_law_below"] []) (kT : PySem.W.keepIn K (.ref g) = true) (mT : mg "_law_take" = some (.ref g))
    (O : FnOk P w K mg base CX0 k go god ["_law_box_here", "_law_some"] (spOf K)) (bO : Binds K god ["_law_box_here", "_law_some"] []) (kO : PySem.W.keepIn K (.ref go) = true) (mO : mg "_law_of" = some (.ref go)) :
    FnOk P w K mg base CX0 (k + 1) f fd ["_law_box_here", "_law_part"] (spBent0 K) := by
  refine F.ok scBent (fun vs H Q E h => ?_) (fun cdv A outer s H vs Q E hr h => ?_)
  · obtain ⟨b, v, n, rfl, _⟩ := h; rfl
  obtain ⟨b, v, n, rfl, hv, hB, q⟩ := h
  refine ⟨_, pss_cons (ps_set (i := 2) scBent.nd rfl (.inl rfl) (pe_call T hr (by rfl) mT kT bT .nil pass0 (pa_cons (pv 0) (pa_cons pe_int pa_nil))))
    (pss_cons (ps_if (PW.pt (pw_and (pt_val (pe_callB call_isiT (by rfl) B.isinstance PyProof.Rows.boot_isinstance (pa_cons (pv 1) (pa_cons (pe_tup (pa_cons (pe_tuple_ (by rfl) B.tuple) (pa_cons (pe_list_ (by rfl) B.list) pa_nil))) pa_nil)))) (pw_and (pt_cmpR op_gt (pe_callB call_len_seq (by rfl) B.len PySem.boot_len (pa_cons (pv 1) pa_nil)) pe_int (nomark _)) (pw_and1 (pt_cmpR op_gt (pv 2) pe_int (nomark _))))))
      (pss_cons (ps_par (i := 3) (j := 4) (by rfl) scBent.nd rfl rfl (by decide) rfl rfl (pa_cons (pe_call T hr (by rfl) mT kT bT .nil pass0 (pa_cons (pv 0) (pa_cons (pe_callB call_len_seq (by rfl) B.len PySem.boot_len (pa_cons (pv 1) pa_nil)) pa_nil))) (pa_cons (pe_callTy call_list_of (by rfl) B.list PyProof.Rows.boot_list (pa_cons (pv 1) pa_nil)) pa_nil)) (by rfl))
      (pss_cons (ps_if (pt_cmpR op_eq (pv 2) pe_int (nomark _)) (pss_one (ps_expr (pe_bm PySem.F.plainAttrs_list PySem.F.slot_list_pop PySem.F.type_list_pop mt_popAt (pv 4) (pa_cons (pv 3) pa_nil))))
        (pss_one (ps_if (pt_cmpR op_eq (pv 2) pe_int (nomark _)) (pss_one (ps_expr (pe_bm PySem.F.plainAttrs_list PySem.F.slot_list_insert PySem.F.type_list_insert mt_insert (pv 4) (pa_cons (pv 3) (pa_cons (pe_ix ix_list (pv 4) (pv 3) (fun _ _ => rfl)) pa_nil)))))
          (pss_one (ps_asg (pe_call R hr (by rfl) mF F.kp bF .nil pass0 (pa_cons (pv 0) (pa_cons (pe_ix ix_list (pv 4) (pv 3) (fun _ _ => rfl)) pa_nil))) (pg_sub (pv 4) (pv 3) set_list))))))
      (pss_one (ps_ret (pe_ifExp (pt_val (pe_callB call_isi (by rfl) B.isinstance PyProof.Rows.boot_isinstance (pa_cons (pv 1) (pa_cons (pe_tuple_ (by rfl) B.tuple) pa_nil)))) (pe_callTy call_tuple_of (by rfl) B.tuple PyProof.Rows.boot_tuple (pa_cons (pv 4) pa_nil)) (pv 4)))))) pss_nil)
    (pss_cons (ps_if (PW.pt (pw_and (pt_cmpR op_eq (pv 2) pe_int (nomark _)) (pw_and1 (pt_val (pe_callB call_isiT (by rfl) B.isinstance PyProof.Rows.boot_isinstance (pa_cons (pv 1) (pa_cons (pe_tup (pa_cons (pe_tuple_ (by rfl) B.tuple) (pa_cons (pe_list_ (by rfl) B.list) pa_nil))) pa_nil)))))))
      (pss_one (ps_ret (pe_ifExp (pt_val (pe_callB call_isi (by rfl) B.isinstance PyProof.Rows.boot_isinstance (pa_cons (pv 1) (pa_cons (pe_tuple_ (by rfl) B.tuple) pa_nil)))) (pe_callTy call_list_of (by rfl) B.list PyProof.Rows.boot_list (pa_cons (pv 1) pa_nil)) (pe_callTy call_tuple_of (by rfl) B.tuple PyProof.Rows.boot_tuple (pa_cons (pv 1) pa_nil))))) pss_nil)
    (pss_cons (ps_set (i := 5) scBent.nd rfl (.inl rfl) (pe_lst (pa_cons pe_non (pa_cons pe_bl (pa_cons pe_bl (pa_cons (pe_un un_neg pe_int) (pa_cons pe_int (pa_cons pe_int (pa_cons pe_str (pa_cons pe_str (pa_cons (pe_tup pa_nil) (pa_cons (pe_lst pa_nil) (pa_cons (pe_tup (pa_cons pe_int pa_nil)) (pa_cons (pe_lst (pa_cons pe_int pa_nil)) (pa_cons (pe_tup (pa_cons pe_int (pa_cons pe_int pa_nil))) (pa_cons (pe_tup (pa_cons pe_int (pa_cons pe_int pa_nil))) (pa_cons (pe_op op_pow pe_int pe_int) pa_nil)))))))))))))))))
    (pss_cons (ps_if (PW.pt (pw_and (pt_val (pe_callB call_isi (by rfl) B.isinstance PyProof.Rows.boot_isinstance (pa_cons (pv 1) (pa_cons (pe_int_ (by rfl) B.int) pa_nil)))) (pw_and1 (pt_not (pt_val (pe_callB call_isi (by rfl) B.isinstance PyProof.Rows.boot_isinstance (pa_cons (pv 1) (pa_cons (pe_bool_ (by rfl) B.bool) pa_nil))))))))
      (pss_one (ps_set (i := 5) scBent.nd rfl (.inl rfl) (pe_op op_cat (pv 5) (pe_lst (pa_cons (pe_op op_add (pv 1) pe_int) (pa_cons (pe_op op_sub (pv 1) pe_int) (pa_cons (pe_op op_add (pv 1) pe_int) (pa_cons (pe_callTy call_str_int (by rfl) ms PyProof.Rows.boot_str (pa_cons (pv 1) pa_nil)) pa_nil)))))))) pss_nil)
    (pss_one (ps_ret (pe_call O hr (by rfl) mO kO bO .nil pass0 (pa_cons (pv 0) (pa_cons (pv 5) pa_nil))))))))), ?_⟩
  refine ⟨_, rfl, b, 6, n + 1, rfl, by decide, by decide, hB, fun r G1 r0 r1 ap1 hB1 => ?_⟩
  refine ⟨_, rfl, (by show 2 ≤ sizeLine; decide), fun p np => ?_⟩
  refine ⟨_, p, _, _, [.type "tuple", .type "list"], _, rfl, upd_same, .cons (.ty _) (.cons (.ty _) .nil), dp_ty (.int _), kit2 kit_tuple kit_list (.int _), _, rfl, iteF (iteF ?_)⟩
  have sp := same_new (o := .tup [.ty "tuple", .ty "list"]) np
  have ap2 := ap1.trans (ap_same (b := b) sp)
  have hB2 := hB1.same sp
  generalize upd G1 p (.tup [.ty "tuple", .ty "list"]) = G2 at ap2 hB2
  refine ⟨_, rfl, rfl, _, rfl, ?_⟩
  refine ite2 (fun c => ?yes) (fun c => ?no)
  case' yes =>
    refine ⟨_, rfl, (by show 2 ≤ sizeLine; decide), fun p2 np2 => ?_⟩
    refine ⟨_, p2, _, _, [.type "tuple", .type "list"], _, rfl, upd_same, .cons (.ty _) (.cons (.ty _) .nil), dp_ty (.int _), kit2 kit_tuple kit_list (.int _), _, rfl, iteF ?_⟩
    have sp2 := same_new (o := .tup [.ty "tuple", .ty "list"]) np2
    have ap3 := ap2.trans (ap_same (b := b) sp2)
    have hB3 := hB2.same sp2
    generalize upd G2 p2 (.tup [.ty "tuple", .ty "list"]) = G3 at ap3 hB3
  case' no =>
    obtain ⟨G3, rfl⟩ : ∃ G3, G3 = G2 := ⟨G2, rfl⟩
    have ap3 := ap2
    have hB3 := hB2
    refine iteF ?_
  all_goals
    refine ⟨1, rfl, Nat.zero_le _, fun p1 n1 => ⟨Nat.zero_le _, fun p2 n2 => ⟨(by show 1 ≤ sizeLine; decide), fun p3 n3 => ⟨(by show 1 ≤ sizeLine; decide), fun p4 n4 => ⟨(by show 2 ≤ sizeLine; decide), fun p5 n5 => ⟨(by show 2 ≤ sizeLine; decide), fun p6 n6 => ⟨10, 30, rfl, rfl, ⟨by decide, by decide, by decide⟩, (by show 15 ≤ sizeLine; decide), fun o no => ?_⟩⟩⟩⟩⟩⟩⟩
    have t6 := same_new (o := .lst [V.non, .bl true, .bl false, .int (-1), .int 0, .int 1, .str "", .str "arm", .ref p1, .ref p2, .ref p3, .ref p4, .ref p5, .ref p6, .int (10 ^ (30 : Int).toNat)]) no
    have t5 := (same_new (o := .tup [.int 0, .int 1]) n6).trans t6
    have t4 := (same_new (o := .tup [.int 1, .int 0]) n5).trans t5
    have t3 := (same_new (o := .lst [.int 0]) n4).trans t4
    have t2 := (same_new (o := .tup [.int 0]) n3).trans t3
    have t1 := (same_new (o := .lst []) n2).trans t2
    have t0 := (same_new (o := .tup []) n1).trans t1
    have a1 := t1 _ _ (upd_same (H := G3) (a := p1) (o := .tup []))
    have a2 := t2 _ _ (upd_same (a := p2) (o := .lst []))
    have a3 := t3 _ _ (upd_same (a := p3) (o := .tup [.int 0]))
    have a4 := t4 _ _ (upd_same (a := p4) (o := .lst [.int 0]))
    have a5 := t5 _ _ (upd_same (a := p5) (o := .tup [.int 1, .int 0]))
    have a6 := t6 _ _ (upd_same (a := p6) (o := .tup [.int 0, .int 1]))
    have ao := upd_same (H := (upd (upd (upd (upd (upd (upd G3 p1 (.tup [])) p2 (.lst [])) p3 (.tup [.int 0])) p4 (.lst [.int 0])) p5 (.tup [.int 1, .int 0])) p6 (.tup [.int 0, .int 1]))) (a := o) (o := .lst [V.non, .bl true, .bl false, .int (-1), .int 0, .int 1, .str "", .str "arm", .ref p1, .ref p2, .ref p3, .ref p4, .ref p5, .ref p6, .int (10 ^ (30 : Int).toNat)])
    have f1 := ap_none ap3 hB3 n1
    have f2 := ap_none ap3 hB3 ((same_new (o := .tup []) n1).free n2)
    have f3 := ap_none ap3 hB3 (((same_new (o := .tup []) n1).trans (same_new (o := .lst []) n2)).free n3)
    have f4 := ap_none ap3 hB3 ((((same_new (o := .tup []) n1).trans (same_new (o := .lst []) n2)).trans (same_new (o := .tup [.int 0]) n3)).free n4)
    have f5 := ap_none ap3 hB3 (((((same_new (o := .tup []) n1).trans (same_new (o := .lst []) n2)).trans (same_new (o := .tup [.int 0]) n3)).trans (same_new (o := .lst [.int 0]) n4)).free n5)
    have f6 := ap_none ap3 hB3 ((((((same_new (o := .tup []) n1).trans (same_new (o := .lst []) n2)).trans (same_new (o := .tup [.int 0]) n3)).trans (same_new (o := .lst [.int 0]) n4)).trans (same_new (o := .tup [.int 1, .int 0]) n5)).free n6)
    have ap4 := ap3.trans (ap_same (b := b) t0)
    have hB4 := hB3.same t0
    generalize upd (upd (upd (upd (upd (upd (upd G3 p1 (.tup [])) p2 (.lst [])) p3 (.tup [.int 0])) p4 (.lst [.int 0])) p5 (.tup [.int 1, .int 0])) p6 (.tup [.int 0, .int 1])) o (.lst [V.non, .bl true, .bl false, .int (-1), .int 0, .int 1, .str "", .str "arm", .ref p1, .ref p2, .ref p3, .ref p4, .ref p5, .ref p6, .int (10 ^ (30 : Int).toNat)]) = G4 at a1 a2 a3 a4 a5 a6 ao ap4 hB4
    refine ⟨_, rfl, _, _, _, _, _, rfl, .ty _, dp_ty (.int _), kit_ty (kit_int _), _, rfl, iteT ⟨_, rfl, _, _, _, _, _, rfl, .ty _, dp_ty (.int _), kit_ty (kit_bool _), _, rfl, iteT ?_⟩⟩
    refine ⟨_, rfl, _, rfl, _, _, rfl, rfl, _, rfl, _, _, rfl, rfl, _, rfl, _, _, rfl, rfl, _, rfl, (v : Int), rfl, ?_, (by show 4 ≤ sizeLine; decide), fun o2 no2 => ⟨o, o2, _, _, rfl, rfl, same_new no2 _ _ ao, upd_same, (by show 19 ≤ sizeLine; decide), fun o3 no3 => ?_⟩⟩
    · have hlog : ((v : Int)).natAbs < 2 ^ 10 := by omega
      by_cases h0 : ((v : Int)).natAbs = 0
      · rw [h0]; decide
      · exact Nat.lt_of_lt_of_le ((Nat.log2_lt h0).mpr hlog) (by decide)
    · have u2 := same_new (o := .lst [V.int ((v : Int) + 1), .int ((v : Int) - 1), .int ((v : Int) + 1), .str (toString (v : Int))]) no2
      have u3 := u2.trans (same_new (o := .lst ([V.non, .bl true, .bl false, .int (-1), .int 0, .int 1, .str "", .str "arm", .ref p1, .ref p2, .ref p3, .ref p4, .ref p5, .ref p6, .int (10 ^ (30 : Int).toNat)] ++ [V.int ((v : Int) + 1), .int ((v : Int) - 1), .int ((v : Int) + 1), .str (toString (v : Int))])) no3)
      have ne3 := box_ne (hB4.same u2) no3
      refine ⟨_, rfl, _, rfl, b, o3, _, n, rfl, SqL.of (hid_lst upd_same ne3), (by show 0 < 19; decide), (by show 19 ≤ 1000; decide), hB4.same u3, fun i x G7 ex ap7 hB7 => ?_⟩
      have get : ∀ p z, H p = none → G4 p = some z → nw H G7 p = some z := fun p z e1 e2 => by
        rw [nw_at e1]
        refine ap_get ap7 (u3 _ _ e2) (fun y => ?_)
        obtain ⟨w', hw'⟩ := hB.some
        rw [y, hw'] at e1; cases e1
      have all4 := ap4.trans ((ap_same (b := b) u3).trans ap7)
      have hx := List.mem_of_getElem? ex
      rcases List.mem_append.mp hx with hx | hx
      · obtain ⟨d, d1, d2, _⟩ := odd_ok (K := K) (get _ _ f1 a1) (get _ _ f2 a2) (get _ _ f3 a3) (get _ _ f4 a4) (get _ _ f5 a5) (get _ _ f6 a6) x hx
        exact q x d G7 d1 d2 all4 hB7
      · have big : ∀ i : Int, i.natAbs ≤ 100 → Sm 1 2000 (.int i) := fun i hi => sm0 (sm_int (Nat.lt_of_le_of_lt hi (by decide)))
        simp only [List.mem_cons, List.mem_nil_iff, or_false] at hx
        rcases hx with rfl | rfl | rfl | rfl
        · exact q _ _ G7 (.int _) (big _ (by omega)) all4 hB7
        · exact q _ _ G7 (.int _) (big _ (by omega)) all4 hB7
        · exact q _ _ G7 (.int _) (big _ (by omega)) all4 hB7
        · exact q _ _ G7 (.str _) ((sm_str (s := toString (v : Int)) (Nat.le_trans (int_text_length_le10 (k := 10) (by decide) (Nat.lt_of_le_of_lt (by omega : ((v : Int)).natAbs ≤ 24) (by decide))) (by decide))).mono (by decide) (by decide)) all4 hB7
end
end K01

set_option Elab.async false
set_option linter.all false
set_option maxRecDepth 100000
set_option maxHeartbeats 4000000
namespace K01
open PySem PySem.Spec PyProof.Rows L2 Hs Hm
theorem dp_nat {K : PySem.W.Frag} {H : Hp} : ∀ ns : List Nat, DpAll K H (natV ns) (ns.map fun i => PyData.int (i : Nat))
  | [] => .nil
  | n :: ns => .cons (.int _) (dp_nat ns)
theorem row_nat (c : Nat) (m : Nat → Nat) : rowV c m = natV ((List.range c).map m) := by
  unfold rowV natV; rw [List.map_map]; rfl
theorem sm_nats {ns : List Nat} (h : ∀ i ∈ ns, i ≤ 24) : ∀ d ∈ ns.map (fun i => PyData.int (i : Nat)), Sm 1 2000 d := by
  intro d hd
  obtain ⟨i, hi, rfl⟩ := List.mem_map.mp hd
  exact sm0 (sm_int (Nat.lt_of_le_of_lt (show ((i : Int)).natAbs ≤ 24 by have := h i hi; omega) (by decide)))
theorem natV_erase : ∀ (ns : List Nat) (k : Nat), (natV ns).eraseIdx k = natV (ns.eraseIdx k)
  | [], _ => rfl
  | _ :: _, 0 => rfl
  | x :: ns, k + 1 => by show V.int x :: (natV ns).eraseIdx k = V.int x :: natV (ns.eraseIdx k); rw [natV_erase ns k]
theorem mem_erase : ∀ {ns : List Nat} {k i : Nat}, i ∈ ns.eraseIdx k → i ∈ ns
  | [], _, _, h => by simp at h
  | x :: ns, 0, i, h => List.mem_cons_of_mem x h
  | x :: ns, k + 1, i, h => by
    have h' : i = x ∨ i ∈ ns.eraseIdx k := by simpa using h
    rcases h' with rfl | h'
    · simp
    · exact List.mem_cons_of_mem _ (mem_erase h')
theorem dpAll_set {K : PySem.W.Frag} {H : Hp} {x : V} {d : PyData} (hx : Dp K H x d) : ∀ {xs : List V} {ds : List PyData} (k : Nat), DpAll K H xs ds → DpAll K H (xs.set k x) (ds.set k d)
  | _, [], _, h => by cases h; exact .nil
  | _, _ :: _, 0, h => by cases h with | cons a b => exact .cons hx b
  | _, _ :: _, k + 1, h => by cases h with | cons a b => exact .cons a (dpAll_set hx k b)
section
variable {P : Program} {w : World} {K : PySem.W.Frag} {mg : Str → Option Value} {base : Heap} {f : Addr} {fd : FuncData}
def spBent (K : PySem.W.Frag) : Sp := fun vs H Q _ => ∃ (b a : Addr) (c : Nat) (m : Nat → Nat) (n : Nat), vs = [.ref b, .ref a] ∧ SqT K (hid H b) a (rowV c m) ∧ c ≤ 24 ∧ (∀ i, m i ≤ 24) ∧ BoxAt H b (n + 4) ∧ ∀ x d G, Dp K (nw H G) x d → Fine d → Ap b H G → BoxAt G b n → Q x G
theorem ok_bent {k : Nat} {g go : Addr} {gd god : FuncData} (F : Fun K "_law_bent" "_law_bent" sBent f fd) (B : B0 mg) (ms : mg "str" = none) (bF : Binds K fd ["_law_box_here", "_law_part"] []) (mF : mg "_law_bent" = some (.ref f)) (R : FnOk P w K mg base CX0 k f fd ["_law_box_here", "_law_part"] (spBent0 K))
    (T : FnOk P w K mg base CX0 k g gd ["_law_box_here", "_law_below"] (spTake K)) (bT : Binds K gd ["_law_box_here", "_law_below"] []) (kT : PySem.W.keepIn K (.ref g) = true) (mT : mg "_law_take" = some (.ref g))
    (O : FnOk P w K mg base CX0 k go god ["_law_box_here", "_law_some"] (spOf K)) (bO : Binds K god ["_law_box_here", "_law_some"] []) (kO : PySem.W.keepIn K (.ref go) = true) (mO : mg "_law_of" = some (.ref go)) :
    FnOk P w K mg base CX0 (k + 1) f fd ["_law_box_here", "_law_part"] (spBent K) := by
  refine F.ok scBent (fun vs H Q E h => ?_) (fun cdv A outer s H vs Q E hr h => ?_)
  · obtain ⟨b, a, c, m, n, rfl, _⟩ := h; rfl
  obtain ⟨b, a, c, m, n, rfl, hT, hc, hm, hB, q⟩ := h
  refine ⟨_, pss_cons (ps_set (i := 2) scBent.nd rfl (.inl rfl) (pe_call T hr (by rfl) mT kT bT .nil pass0 (pa_cons (pv 0) (pa_cons pe_int pa_nil))))
    (pss_cons (ps_if (PW.pt (pw_and (pt_val (pe_callB call_isiT (by rfl) B.isinstance PyProof.Rows.boot_isinstance (pa_cons (pv 1) (pa_cons (pe_tup (pa_cons (pe_tuple_ (by rfl) B.tuple) (pa_cons (pe_list_ (by rfl) B.list) pa_nil))) pa_nil)))) (pw_and (pt_cmpR op_gt (pe_callB call_len_seq (by rfl) B.len PySem.boot_len (pa_cons (pv 1) pa_nil)) pe_int (nomark _)) (pw_and1 (pt_cmpR op_gt (pv 2) pe_int (nomark _))))))
      (pss_cons (ps_par (i := 3) (j := 4) (by rfl) scBent.nd rfl rfl (by decide) rfl rfl (pa_cons (pe_call T hr (by rfl) mT kT bT .nil pass0 (pa_cons (pv 0) (pa_cons (pe_callB call_len_seq (by rfl) B.len PySem.boot_len (pa_cons (pv 1) pa_nil)) pa_nil))) (pa_cons (pe_callTy call_list_of (by rfl) B.list PyProof.Rows.boot_list (pa_cons (pv 1) pa_nil)) pa_nil)) (by rfl))
      (pss_cons (ps_if (pt_cmpR op_eq (pv 2) pe_int (nomark _)) (pss_one (ps_expr (pe_bm PySem.F.plainAttrs_list PySem.F.slot_list_pop PySem.F.type_list_pop mt_popAt (pv 4) (pa_cons (pv 3) pa_nil))))
        (pss_one (ps_if (pt_cmpR op_eq (pv 2) pe_int (nomark _)) (pss_one (ps_expr (pe_bm PySem.F.plainAttrs_list PySem.F.slot_list_insert PySem.F.type_list_insert mt_insert (pv 4) (pa_cons (pv 3) (pa_cons (pe_ix ix_list (pv 4) (pv 3) (fun _ _ => rfl)) pa_nil)))))
          (pss_one (ps_asg (pe_call R hr (by rfl) mF F.kp bF .nil pass0 (pa_cons (pv 0) (pa_cons (pe_ix ix_list (pv 4) (pv 3) (fun _ _ => rfl)) pa_nil))) (pg_sub (pv 4) (pv 3) set_list))))))
      (pss_one (ps_ret (pe_ifExp (pt_val (pe_callB call_isi (by rfl) B.isinstance PyProof.Rows.boot_isinstance (pa_cons (pv 1) (pa_cons (pe_tuple_ (by rfl) B.tuple) pa_nil)))) (pe_callTy call_tuple_of (by rfl) B.tuple PyProof.Rows.boot_tuple (pa_cons (pv 4) pa_nil)) (pv 4)))))) pss_nil)
    (pss_cons (ps_if (PW.pt (pw_and (pt_cmpR op_eq (pv 2) pe_int (nomark _)) (pw_and1 (pt_val (pe_callB call_isiT (by rfl) B.isinstance PyProof.Rows.boot_isinstance (pa_cons (pv 1) (pa_cons (pe_tup (pa_cons (pe_tuple_ (by rfl) B.tuple) (pa_cons (pe_list_ (by rfl) B.list) pa_nil))) pa_nil)))))))
      (pss_one (ps_ret (pe_ifExp (pt_val (pe_callB call_isi (by rfl) B.isinstance PyProof.Rows.boot_isinstance (pa_cons (pv 1) (pa_cons (pe_tuple_ (by rfl) B.tuple) pa_nil)))) (pe_callTy call_list_of (by rfl) B.list PyProof.Rows.boot_list (pa_cons (pv 1) pa_nil)) (pe_callTy call_tuple_of (by rfl) B.tuple PyProof.Rows.boot_tuple (pa_cons (pv 1) pa_nil))))) pss_nil)
    (pss_cons (ps_set (i := 5) scBent.nd rfl (.inl rfl) (pe_lst (pa_cons pe_non (pa_cons pe_bl (pa_cons pe_bl (pa_cons (pe_un un_neg pe_int) (pa_cons pe_int (pa_cons pe_int (pa_cons pe_str (pa_cons pe_str (pa_cons (pe_tup pa_nil) (pa_cons (pe_lst pa_nil) (pa_cons (pe_tup (pa_cons pe_int pa_nil)) (pa_cons (pe_lst (pa_cons pe_int pa_nil)) (pa_cons (pe_tup (pa_cons pe_int (pa_cons pe_int pa_nil))) (pa_cons (pe_tup (pa_cons pe_int (pa_cons pe_int pa_nil))) (pa_cons (pe_op op_pow pe_int pe_int) pa_nil)))))))))))))))))
    (pss_cons (ps_if (PW.pt (pw_and (pt_val (pe_callB call_isi (by rfl) B.isinstance PyProof.Rows.boot_isinstance (pa_cons (pv 1) (pa_cons (pe_int_ (by rfl) B.int) pa_nil)))) (pw_and1 (pt_not (pt_val (pe_callB call_isi (by rfl) B.isinstance PyProof.Rows.boot_isinstance (pa_cons (pv 1) (pa_cons (pe_bool_ (by rfl) B.bool) pa_nil))))))))
      (pss_one (ps_set (i := 5) scBent.nd rfl (.inl rfl) (pe_op op_cat (pv 5) (pe_lst (pa_cons (pe_op op_add (pv 1) pe_int) (pa_cons (pe_op op_sub (pv 1) pe_int) (pa_cons (pe_op op_add (pv 1) pe_int) (pa_cons (pe_callTy call_str_int (by rfl) ms PyProof.Rows.boot_str (pa_cons (pv 1) pa_nil)) pa_nil)))))))) pss_nil)
    (pss_one (ps_ret (pe_call O hr (by rfl) mO kO bO .nil pass0 (pa_cons (pv 0) (pa_cons (pv 5) pa_nil))))))))), ?_⟩
  have hns : ∀ i ∈ (List.range c).map m, i ≤ 24 := fun i hi => by
    obtain ⟨j, _, rfl⟩ := List.mem_map.mp hi
    exact hm j
  have hlen : ((List.range c).map m).length = c := by rw [List.length_map, List.length_range]
  rw [row_nat] at hT
  generalize (List.range c).map m = ns at hT hns hlen
  have hlV : (natV ns).length = c := by unfold natV; rw [List.length_map]; exact hlen
  have hD : ∀ G, Ap b H G → Dp K G (.ref a) (.tuple (ns.map fun i => PyData.int (i : Nat))) := fun G ap => .tup (same_tup (Same.trans ap (hid_same G b)) hT) (dp_nat ns)
  have hTG : ∀ G, Ap b H G → SqT K G a (natV ns) := fun G ap => same_tup (Same.trans ap (hid_same G b)) hT
  refine ⟨_, rfl, b, 6, n + 3, rfl, by decide, by decide, hB, fun r G1 r0 r1 ap1 hB1 => ?_⟩
  refine ⟨_, rfl, (by show 2 ≤ sizeLine; decide), fun p np => ?_⟩
  have sp := same_new (o := .tup [.ty "tuple", .ty "list"]) np
  have ap2 := ap1.trans (ap_same (b := b) sp)
  have hB2 := hB1.same sp
  refine ⟨_, p, _, _, [.type "tuple", .type "list"], _, rfl, upd_same, .cons (.ty _) (.cons (.ty _) .nil), dp_ty (hD _ ap2), kit2 kit_tuple kit_list _, _, rfl, iteT ?_⟩
  generalize upd G1 p (.tup [.ty "tuple", .ty "list"]) = G2 at ap2 hB2
  refine ⟨_, rfl, a, _, rfl, .inr (hTG _ ap2), _, _, rfl, rfl, _, rfl, ite2 (fun c1 => ?len) (fun c1 => ?tail1)⟩
  case' len => refine ⟨_, rfl, _, _, rfl, rfl, _, rfl, ite2 (fun c2 => ?way) (fun c2 => ?tail2)⟩
  case way =>
    have c1' : 0 < c := by
      have z : (0 : Int) < ((natV ns).length : Nat) := of_decide_eq_true c1
      rw [hlV] at z; omega
    refine ⟨_, rfl, _, rfl, a, _, rfl, .inr (hTG _ ap2), b, _, n + 2, rfl, ?_, ?_, hB2, fun r2 G3 s0 s1 ap3' hB3 => ?_⟩
    · rw [hlV]; omega
    · rw [hlV]; omega
    rw [hlV] at s1
    have ap3 := ap2.trans ap3'
    refine ⟨_, rfl, a, _, rfl, .inr (hTG _ ap3), fun l nl => ⟨_, _, rfl, ?_⟩⟩
    have nlH : H l = none := ap_none ap3 hB3 nl
    have nlb : l ≠ b := box_ne hB3 nl
    have sl := same_new (o := .lst (natV ns)) nl
    have hl4 : (upd G3 l (.lst (natV ns))) l = some (.lst (natV ns)) := upd_same
    have ap4 := ap3.trans (ap_same (b := b) sl)
    have hB4 := hB3.same sl
    generalize upd G3 l (.lst (natV ns)) = G4 at hl4 ap4 hB4
    have k2 : r2.toNat < ns.length := by omega
    have hk : (natV ns)[r2.toNat]? = some (.int ((ns[r2.toNat] : Nat) : Int)) := by unfold natV; rw [List.getElem?_map, List.getElem?_eq_getElem k2]; rfl
    have hix : ixN (natV ns).length r2 = some r2.toNat := by unfold ixN; rw [if_pos s0, if_pos (by rw [hlV]; omega)]
    have hat : atI (natV ns) r2 = some (.int ((ns[r2.toNat] : Nat) : Int)) := by
      have z := atI_nat hk
      rwa [show ((r2.toNat : Nat) : Int) = r2 by omega] at z
    refine ⟨_, rfl, rfl, _, rfl, ite2 (fun w2 => ?pop) (fun w2 => ?other)⟩
    case' pop =>
      refine ⟨_, rfl, .inl ⟨rfl, _, SqL.of hl4⟩, _, rfl, l, _, r2, r2.toNat, _, rfl, rfl, hl4, by omega, by omega, (ixN_seq hix).1, hk, ?_⟩
      have hl5 : (upd G4 l (.lst ((natV ns).eraseIdx r2.toNat))) l = some (.lst (natV (ns.eraseIdx r2.toNat))) := by rw [upd_same, natV_erase]
      have ap5 : Ap b H (upd G4 l (.lst ((natV ns).eraseIdx r2.toNat))) := ap_up ap4 nlH
      have hB5 : BoxAt (upd G4 l (.lst ((natV ns).eraseIdx r2.toNat))) b n := (box_up hB4 nlb).mono (by omega)
      generalize upd G4 l (.lst ((natV ns).eraseIdx r2.toNat)) = G5 at hl5 ap5 hB5
      have hd5 : ∃ ds, DpAll K (hid (nw H G5) l) (natV (ns.eraseIdx r2.toNat)) ds ∧ (∀ d ∈ ds, Sm 1 2000 d) ∧ ds.length ≤ 25 := ⟨_, dp_nat _, sm_nats fun i hi => hns i (mem_erase hi), by rw [List.length_map, List.length_eraseIdx]; split <;> omega⟩
    case' other => refine ⟨_, rfl, rfl, _, rfl, ite2 (fun w3 => ?insert) (fun w3 => ?deep)⟩
    case' insert =>
      refine ⟨_, rfl, .inl ⟨rfl, _, SqL.of hl4⟩, _, rfl, _, rfl, _, rfl, l, _, r2, _, rfl, rfl, SqL.of hl4, hat, l, _, r2, _, rfl, rfl, hl4, ?_, s0, by omega, ?_⟩
      · rw [hlV]; exact small1000 (by omega)
      have ei : (natV ns).take r2.toNat ++ [V.int ((ns[r2.toNat] : Nat) : Int)] ++ (natV ns).drop r2.toNat = natV (ns.take r2.toNat ++ [ns[r2.toNat]] ++ ns.drop r2.toNat) := by unfold natV; rw [List.map_append, List.map_append, List.map_take, List.map_drop]; rfl
      have hl5 : (upd G4 l (.lst ((natV ns).take r2.toNat ++ [V.int ((ns[r2.toNat] : Nat) : Int)] ++ (natV ns).drop r2.toNat))) l = some (.lst (natV (ns.take r2.toNat ++ [ns[r2.toNat]] ++ ns.drop r2.toNat))) := by rw [upd_same, ei]
      have ap5 : Ap b H (upd G4 l (.lst ((natV ns).take r2.toNat ++ [V.int ((ns[r2.toNat] : Nat) : Int)] ++ (natV ns).drop r2.toNat))) := ap_up ap4 nlH
      have hB5 : BoxAt (upd G4 l (.lst ((natV ns).take r2.toNat ++ [V.int ((ns[r2.toNat] : Nat) : Int)] ++ (natV ns).drop r2.toNat))) b n := (box_up hB4 nlb).mono (by omega)
      generalize upd G4 l (.lst ((natV ns).take r2.toNat ++ [V.int ((ns[r2.toNat] : Nat) : Int)] ++ (natV ns).drop r2.toNat)) = G5 at hl5 ap5 hB5
      have hd5 : ∃ ds, DpAll K (hid (nw H G5) l) (natV (ns.take r2.toNat ++ [ns[r2.toNat]] ++ ns.drop r2.toNat)) ds ∧ (∀ d ∈ ds, Sm 1 2000 d) ∧ ds.length ≤ 25 := by
        refine ⟨_, dp_nat _, sm_nats fun i hi => ?_, ?_⟩
        · simp only [List.mem_append, List.mem_singleton] at hi
          rcases hi with (hi | rfl) | hi
          · exact hns i (List.mem_of_mem_take hi)
          · exact hns _ (List.getElem_mem k2)
          · exact hns i (List.mem_of_mem_drop hi)
        · rw [List.length_map, List.length_append, List.length_append, List.length_take, List.length_drop]
          show min r2.toNat ns.length + 1 + (ns.length - r2.toNat) ≤ 25
          omega
    case' deep =>
      refine ⟨_, rfl, _, rfl, _, rfl, l, _, r2, _, rfl, rfl, SqL.of hl4, hat, b, ns[r2.toNat], n, rfl, hns _ (List.getElem_mem k2), hB4, fun x d Gx dx smx apx hBx => ?_⟩
      have hlx := ap_get apx hl4 nlb
      refine ⟨_, rfl, _, rfl, l, _, r2, r2.toNat, rfl, rfl, hlx, hix, ?_⟩
      have hl5 : (upd Gx l (.lst ((natV ns).set r2.toNat x))) l = some (.lst ((natV ns).set r2.toNat x)) := upd_same
      have ap5 : Ap b H (upd Gx l (.lst ((natV ns).set r2.toNat x))) := ap_up (ap4.trans apx) nlH
      have hB5 : BoxAt (upd Gx l (.lst ((natV ns).set r2.toNat x))) b n := box_up hBx nlb
      have hd5 : ∃ ds, DpAll K (hid (nw H (upd Gx l (.lst ((natV ns).set r2.toNat x)))) l) ((natV ns).set r2.toNat x) ds ∧ (∀ d ∈ ds, Sm 1 2000 d) ∧ ds.length ≤ 25 := by
        have sx : Same (nw G4 Gx) (hid (nw H (upd Gx l (.lst ((natV ns).set r2.toNat x)))) l) := fun a' o' e => by
          obtain ⟨e1, e2⟩ := nw_get e
          have ne : a' ≠ l := fun z => by rw [z, hl4] at e1; cases e1
          rw [hid_ne ne, nw_at (ap_none ap4 hB4 e1), upd_ne ne]; exact e2
        refine ⟨_, dpAll_set (same_dp sx dx) r2.toNat (dp_nat ns), fun d' hd' => ?_, by rw [List.length_set, List.length_map]; omega⟩
        rcases List.mem_or_eq_of_mem_set hd' with z | z
        · exact sm_nats hns d' z
        · rw [z]; exact smx
      generalize upd Gx l (.lst ((natV ns).set r2.toNat x)) = G5 at hl5 ap5 hB5 hd5
    all_goals
      obtain ⟨ds, d1, d2, d3⟩ := hd5
      refine ⟨_, rfl, _, _, _, _, _, rfl, .ty _, dp_ty (hD _ ap5), kit_ty (kit_tuple _), _, rfl, iteT ⟨_, rfl, l, _, rfl, .inl ⟨SqL.of hl5, fun p7 np7 => ?_⟩⟩⟩
      have e7 : H p7 = none := ap_none ap5 hB5 np7
      refine q _ (.tuple ds) _ (.tup (SqT.of (by rw [nw_at e7]; exact upd_same)) (same_dps (fun a' o' z => ?_) d1)) ⟨(sm_tuple d2 d3).mono (by decide) (by decide), fun es z => by cases z; omega⟩ (ap5.trans (ap_same (same_new np7))) (hB5.same (same_new np7))
      have ne7 : a' ≠ l := fun y => by rw [y, hid_at] at z; cases z
      rw [hid_ne ne7] at z
      obtain ⟨z1, z2⟩ := nw_get z
      rw [nw_at z1]
      exact same_new np7 _ _ z2
  case' tail1 => refine iteF ?_
  all_goals
    refine ⟨_, rfl, rfl, _, rfl, ite2 (fun c3 => ?lst) (fun c3 => ?odd)⟩
    case lst =>
      refine ⟨_, rfl, (by show 2 ≤ sizeLine; decide), fun p3 np3 => ?_⟩
      have sp3 := same_new (o := .tup [.ty "tuple", .ty "list"]) np3
      have ap3 := ap2.trans (ap_same (b := b) sp3)
      have hB3 := hB2.same sp3
      refine ⟨_, p3, _, _, [.type "tuple", .type "list"], _, rfl, upd_same, .cons (.ty _) (.cons (.ty _) .nil), dp_ty (hD _ ap3), kit2 kit_tuple kit_list _, _, rfl, iteT ?_⟩
      generalize upd G2 p3 (.tup [.ty "tuple", .ty "list"]) = G3 at ap3 hB3
      refine ⟨_, rfl, _, _, _, _, _, rfl, .ty _, dp_ty (hD _ ap3), kit_ty (kit_tuple _), _, rfl, iteT ⟨_, rfl, a, _, rfl, .inr (hTG _ ap3), fun l nl => ?_⟩⟩
      refine q _ (.list (ns.map fun i => PyData.int (i : Nat))) _ (.lst (SqL.of (by rw [nw_at (ap_none ap3 hB3 nl)]; exact upd_same)) (dp_nat ns)) ⟨(sm_list (n := 25) (sm_nats hns) (by rw [List.length_map]; omega)).mono (by decide) (by decide), fun es z => nomatch z⟩ (ap3.trans (ap_same (same_new nl))) ((hB3.same (same_new nl)).mono (by omega))
    case odd =>
      obtain ⟨G3, rfl⟩ : ∃ G3, G3 = G2 := ⟨G2, rfl⟩
      have ap3 := ap2
      have hB3 := hB2
      refine iteF ?_
      refine ⟨1, rfl, Nat.zero_le _, fun p1 n1 => ⟨Nat.zero_le _, fun p2 n2 => ⟨(by show 1 ≤ sizeLine; decide), fun p3 n3 => ⟨(by show 1 ≤ sizeLine; decide), fun p4 n4 => ⟨(by show 2 ≤ sizeLine; decide), fun p5 n5 => ⟨(by show 2 ≤ sizeLine; decide), fun p6 n6 => ⟨10, 30, rfl, rfl, ⟨by decide, by decide, by decide⟩, (by show 15 ≤ sizeLine; decide), fun o no => ?_⟩⟩⟩⟩⟩⟩⟩
      have t6 := same_new (o := .lst [V.non, .bl true, .bl false, .int (-1), .int 0, .int 1, .str "", .str "arm", .ref p1, .ref p2, .ref p3, .ref p4, .ref p5, .ref p6, .int (10 ^ (30 : Int).toNat)]) no
      have t5 := (same_new (o := .tup [.int 0, .int 1]) n6).trans t6
      have t4 := (same_new (o := .tup [.int 1, .int 0]) n5).trans t5
      have t3 := (same_new (o := .lst [.int 0]) n4).trans t4
      have t2 := (same_new (o := .tup [.int 0]) n3).trans t3
      have t1 := (same_new (o := .lst []) n2).trans t2
      have t0 := (same_new (o := .tup []) n1).trans t1
      have a1 := t1 _ _ (upd_same (H := G3) (a := p1) (o := .tup []))
      have a2 := t2 _ _ (upd_same (a := p2) (o := .lst []))
      have a3 := t3 _ _ (upd_same (a := p3) (o := .tup [.int 0]))
      have a4 := t4 _ _ (upd_same (a := p4) (o := .lst [.int 0]))
      have a5 := t5 _ _ (upd_same (a := p5) (o := .tup [.int 1, .int 0]))
      have a6 := t6 _ _ (upd_same (a := p6) (o := .tup [.int 0, .int 1]))
      have ao := upd_same (H := (upd (upd (upd (upd (upd (upd G3 p1 (.tup [])) p2 (.lst [])) p3 (.tup [.int 0])) p4 (.lst [.int 0])) p5 (.tup [.int 1, .int 0])) p6 (.tup [.int 0, .int 1]))) (a := o) (o := .lst [V.non, .bl true, .bl false, .int (-1), .int 0, .int 1, .str "", .str "arm", .ref p1, .ref p2, .ref p3, .ref p4, .ref p5, .ref p6, .int (10 ^ (30 : Int).toNat)])
      have f1 := ap_none ap3 hB3 n1
      have f2 := ap_none ap3 hB3 ((same_new (o := .tup []) n1).free n2)
      have f3 := ap_none ap3 hB3 (((same_new (o := .tup []) n1).trans (same_new (o := .lst []) n2)).free n3)
      have f4 := ap_none ap3 hB3 ((((same_new (o := .tup []) n1).trans (same_new (o := .lst []) n2)).trans (same_new (o := .tup [.int 0]) n3)).free n4)
      have f5 := ap_none ap3 hB3 (((((same_new (o := .tup []) n1).trans (same_new (o := .lst []) n2)).trans (same_new (o := .tup [.int 0]) n3)).trans (same_new (o := .lst [.int 0]) n4)).free n5)
      have f6 := ap_none ap3 hB3 ((((((same_new (o := .tup []) n1).trans (same_new (o := .lst []) n2)).trans (same_new (o := .tup [.int 0]) n3)).trans (same_new (o := .lst [.int 0]) n4)).trans (same_new (o := .tup [.int 1, .int 0]) n5)).free n6)
      have ap4 := ap3.trans (ap_same (b := b) t0)
      have hB4 := hB3.same t0
      generalize upd (upd (upd (upd (upd (upd (upd G3 p1 (.tup [])) p2 (.lst [])) p3 (.tup [.int 0])) p4 (.lst [.int 0])) p5 (.tup [.int 1, .int 0])) p6 (.tup [.int 0, .int 1])) o (.lst [V.non, .bl true, .bl false, .int (-1), .int 0, .int 1, .str "", .str "arm", .ref p1, .ref p2, .ref p3, .ref p4, .ref p5, .ref p6, .int (10 ^ (30 : Int).toNat)]) = G4 at a1 a2 a3 a4 a5 a6 ao ap4 hB4
      refine ⟨_, rfl, _, _, _, _, _, rfl, .ty _, dp_ty (hD _ ap4), kit_ty (kit_int _), _, rfl, iteF (iteF ?_)⟩
      have neo : o ≠ b := fun y => by
        obtain ⟨x', y', z', e', _⟩ := hB4
        rw [y, e'] at ao; cases ao
      refine ⟨_, rfl, _, rfl, b, o, _, n + 2, rfl, SqL.of (hid_lst ao neo), (by show 0 < 15; decide), (by show 15 ≤ 1000; decide), hB4, fun i x G7 ex ap7 hB7 => ?_⟩
      have get : ∀ p z, H p = none → G4 p = some z → nw H G7 p = some z := fun p z e1 e2 => by
        rw [nw_at e1]
        refine ap_get ap7 e2 (fun y => ?_)
        obtain ⟨w', hw'⟩ := hB.some
        rw [y, hw'] at e1; cases e1
      obtain ⟨d, d1, d2, d3⟩ := odd_ok (K := K) (get _ _ f1 a1) (get _ _ f2 a2) (get _ _ f3 a3) (get _ _ f4 a4) (get _ _ f5 a5) (get _ _ f6 a6) x (List.mem_of_getElem? ex)
      exact q x d G7 d1 ⟨d2.mono (by decide) (by decide), d3⟩ (ap4.trans ap7) (hB7.mono (by omega))
end
end K01

set_option Elab.async false
set_option linter.all false
set_option maxRecDepth 100000
set_option maxHeartbeats 4000000
namespace K01
open PySem PySem.Spec PyProof.Rows L2 Hs Hm
theorem rg_nat (k : Nat) : rgV 0 (k : Int) = ((List.range k).map fun i => ((i : Nat) : Int)).map V.int := by
  unfold rgV
  rw [show ((k : Int) - 0).toNat = k by omega, List.map_map]
  apply List.map_congr_left
  intro i _
  show V.int (0 + (i : Int)) = V.int (i : Int)
  rw [Int.zero_add]
theorem cutV_two (xs : List V) (k : Nat) (h : 2 * k + 2 ≤ xs.length) : cutV xs (some ((2 : Int) * (k : Int))) (some ((2 : Int) * (k : Int) + 2)) = [xs[2 * k]'(by omega), xs[2 * k + 1]'(by omega)] := by
  unfold cutV
  have e1 : (2 : Int) * (k : Int) = ((2 * k : Nat) : Int) := by omega
  have e2 : (2 : Int) * (k : Int) + 2 = ((2 * k + 2 : Nat) : Int) := by omega
  rw [e2, e1, HT.sIx_nat, HT.sIx_nat, show min (2 * k) xs.length = 2 * k by omega, show min (2 * k + 2) xs.length = 2 * k + 2 by omega]
  rw [show 2 * k + 2 - 2 * k = 2 by omega, List.drop_eq_getElem_cons (by omega), List.drop_eq_getElem_cons (by omega)]
  rfl
section
variable {K : PySem.W.Frag}
theorem sqT_up {G : Hp} {t p : Addr} {xs ys zs : List V} (h : SqT K G t xs) (hp : G p = some (.lst ys)) : SqT K (upd G p (.lst zs)) t xs := by
  rcases h with (h | ⟨o, h⟩) | h
  · exact .inl (.inl (tup_up h hp))
  · exact .inl (.inr ⟨o, by rw [upd_ne (ne_of h hp (by intro z; cases z))]; exact h⟩)
  · exact .inr h
theorem sqT_hid {G : Hp} {t b : Addr} {xs ys : List V} (h : SqT K G t xs) (hb : G b = some (.lst ys)) : SqT K (hid G b) t xs := by
  rcases h with (h | ⟨o, h⟩) | h
  · exact .inl (.inl (by rw [hid_ne (ne_of h hb (by intro z; cases z))]; exact h))
  · exact .inl (.inr ⟨o, by rw [hid_ne (ne_of h hb (by intro z; cases z))]; exact h⟩)
  · exact .inr h
theorem pairs_map {G G' : Hp} (f : ∀ t xs, SqT K G t xs → SqT K G' t xs) : ∀ {L : List (Nat × Nat)} {ys : List V}, DpAll K G ys (L.map pairD) → DpAll K G' ys (L.map pairD)
  | [], _, h => by cases h; exact .nil
  | p :: L, _, h => by
    cases h with
    | cons a r =>
      obtain ⟨t, rfl, ht⟩ := dp_pair a
      exact .cons (.tup (f _ _ ht) (.cons (.int _) (.cons (.int _) .nil))) (pairs_map f r)
theorem hid_drop {G : Hp} {b M : Addr} {o : HO} (h : G M = none) : Same (hid G b) (hid (hid (upd G M o) b) M) := fun a z e => by
  have nb : a ≠ b := fun y => by rw [y, hid_at] at e; cases e
  rw [hid_ne nb] at e
  have nM : a ≠ M := fun y => by rw [y, h] at e; cases e
  rw [hid_ne nM, hid_ne nb, upd_ne nM]; exact e
theorem lay_mem : ∀ {ds : List PyData}, PyData.canLayAll0 ds = true → ∀ e ∈ ds, e.canLay0 = true
  | [], _, _, h => nomatch h
  | d :: ds, h, e, he => by
    have h' : (d.canLay0 && PyData.canLayAll0 ds) = true := h
    obtain ⟨h1, h2⟩ := Bool.and_eq_true_iff.mp h'
    rcases List.mem_cons.mp he with rfl | he
    · exact h1
    · exact lay_mem h2 e he
theorem dep_mem : ∀ {ds : List PyData} {e : PyData}, e ∈ ds → e.depth ≤ PyData.depthAll ds
  | d :: ds, e, he => by
    rcases List.mem_cons.mp he with rfl | he
    · exact Nat.le_max_left _ _
    · exact Nat.le_trans (dep_mem he) (Nat.le_max_right _ _)
theorem fine_tup {d : PyData} (h : Fine d) : ∀ ds, d = .tuple ds → (∀ e ∈ ds, SeqAt.shaped e = true) ∧ ds.length ≤ 1000 := by
  rintro ds rfl
  refine ⟨fun e he => ?_, Nat.le_trans (h.tp ds rfl) (by decide)⟩
  have h1 := lay_mem (show PyData.canLayAll0 ds = true from h.sm.sh) e he
  have h2 := dep_mem he
  have h3 : PyData.depthAll ds + 1 ≤ 4 := h.sm.dp
  show (e.canLay0 && decide (e.depth ≤ 64)) = true
  rw [h1, decide_eq_true (by omega)]; rfl
/-- a small value that leans on no object -/
def smV (v : V) : Prop := ∃ d, (∀ (K : PySem.W.Frag) (G : Hp), Dp K G v d) ∧ Sm 0 1100 d
theorem smv_int {i : Int} (h : i.natAbs < 10 ^ 40) : smV (.int i) := ⟨.int i, fun _ _ => .int i, (sm_int h).mono (Nat.le_refl _) (by decide)⟩
theorem smv_nat {i : Nat} (h : i ≤ 1000) : smV (.int (i : Nat)) := smv_int (Nat.lt_of_le_of_lt (show ((i : Int)).natAbs ≤ 1000 by omega) (by decide))
theorem smv_bl (b : Bool) : smV (.bl b) := ⟨.bool b, fun _ _ => .bl b, (sm_bool b).mono (Nat.le_refl _) (by decide)⟩
theorem smv_non : smV .non := ⟨.none, fun _ _ => .non, sm_none.mono (Nat.le_refl _) (by decide)⟩
theorem smv_str {s : String} (h : s.length ≤ 100) : smV (.str (Str.ofString s)) := ⟨.str (Str.ofString s), fun _ _ => .str _, sm_str h⟩
theorem smv_nil : ∀ v ∈ ([] : List V), smV v := fun v h => nomatch h
theorem smv_cons {x : V} {xs : List V} (h : smV x) (hs : ∀ v ∈ xs, smV v) : ∀ v ∈ x :: xs, smV v := fun v hv => by
  rcases List.mem_cons.mp hv with rfl | hv
  · exact h
  · exact hs v hv
theorem smv_i {i : Int} (h : i.natAbs ≤ 1000) : smV (.int i) := smv_int (Nat.lt_of_le_of_lt h (by decide))
theorem smv_all {G : Hp} : ∀ {vs : List V}, (∀ v ∈ vs, smV v) → ∃ ds, DpAll K G vs ds ∧ (∀ d ∈ ds, Sm 0 1100 d) ∧ ds.length = vs.length
  | [], _ => ⟨[], .nil, (fun _ h => nomatch h), rfl⟩
  | v :: vs, h => by
    obtain ⟨d, h1, h2⟩ := h v (by simp)
    obtain ⟨ds, k1, k2, k3⟩ := smv_all (vs := vs) fun x hx => h x (by simp [hx])
    refine ⟨d :: ds, .cons (h1 K G) k1, fun e he => ?_, by rw [List.length_cons, List.length_cons, k3]⟩
    rcases List.mem_cons.mp he with rfl | he
    · exact h2
    · exact k2 e he
/-- a matter to ask about, the box aside -/
def MatI (K : PySem.W.Frag) (b : Addr) (G : Hp) (x : V) : Prop := ∃ d, Dp K (hid G b) x d ∧ Fine d
theorem mat_ap {b : Addr} {G J : Hp} {x : V} (h : MatI K b G x) (ap : Ap b G J) : MatI K b J x := by
  obtain ⟨d, h1, h2⟩ := h
  exact ⟨d, same_dp ap h1, h2⟩
theorem mat_val {b : Addr} {G : Hp} {v : V} (h : smV v) (ht : ∀ d, Dp K (hid G b) v d → ∀ ds, d ≠ .tuple ds) : MatI K b G v := by
  obtain ⟨d, h1, h2⟩ := h
  exact ⟨d, h1 K _, h2.mono (by decide) (by decide), fun ds z => absurd z (ht d (h1 K _) ds)⟩
theorem mat_tup {b t : Addr} {G : Hp} {vs : List V} (h : SqT K (hid G b) t vs) (hv : ∀ v ∈ vs, smV v) (hn : vs.length ≤ 50) : MatI K b G (.ref t) := by
  obtain ⟨ds, k1, k2, k3⟩ := smv_all (K := K) (G := hid G b) hv
  exact ⟨.tuple ds, .tup h k1, (sm_tuple k2 (n := 50) (by omega)).mono (by decide) (by decide), fun es z => by cases z; omega⟩
theorem mat_lst {b t : Addr} {G : Hp} {vs : List V} (h : SqL K (hid G b) t vs) (hv : ∀ v ∈ vs, smV v) (hn : vs.length ≤ 50) : MatI K b G (.ref t) := by
  obtain ⟨ds, k1, k2, k3⟩ := smv_all (K := K) (G := hid G b) hv
  exact ⟨.list ds, .lst h k1, (sm_list k2 (n := 50) (by omega)).mono (by decide) (by decide), fun es z => nomatch z⟩
theorem mat_nest {b t a1 a2 : Addr} {G : Hp} {x y : Int} (h : SqT K (hid G b) t [.ref a1, .ref a2]) (h1 : SqT K (hid G b) a1 [.int x]) (h2 : SqT K (hid G b) a2 [.int y]) (hx : x.natAbs ≤ 1000) (hy : y.natAbs ≤ 1000) : MatI K b G (.ref t) := by
  have z : ∀ i : Int, i.natAbs ≤ 1000 → Sm 1 200 (.tuple [.int i]) := fun i hi => (sm_tuple (k := 0) (c := 50) (n := 1) (ds := [.int i]) (fun d hd => by
    have e : d = .int i := by simpa using hd
    rw [e]; exact sm_int (Nat.lt_of_le_of_lt hi (by decide))) (Nat.le_refl 1)).mono (by decide) (by decide)
  refine ⟨.tuple [.tuple [.int x], .tuple [.int y]], .tup h (.cons (.tup h1 (.cons (.int _) .nil)) (.cons (.tup h2 (.cons (.int _) .nil)) .nil)), (sm_tuple (k := 1) (c := 200) (n := 2) (ds := [.tuple [.int x], .tuple [.int y]]) (fun d hd => ?_) (Nat.le_refl 2)).mono (by decide) (by decide), fun es e => by cases e; exact (show 2 ≤ 100 by decide)⟩
  have e : d = .tuple [.int x] ∨ d = .tuple [.int y] := by simpa using hd
  rcases e with rfl | rfl
  · exact z x hx
  · exact z y hy
theorem smv_row {n : Nat} {m : Nat → Nat} (hm : ∀ i, m i ≤ 24) : ∀ v ∈ rowV n m, smV v := by
  intro v hv
  unfold rowV at hv
  obtain ⟨i, _, rfl⟩ := List.mem_map.mp hv
  exact smv_nat (by have := hm i; omega)
theorem cut_mem {xs : List V} {lo hi : Option Int} {v : V} (h : v ∈ cutV xs lo hi) : v ∈ xs := by
  unfold cutV at h
  exact List.mem_of_mem_drop (List.mem_of_mem_take h)
theorem smv_rg {a b : Int} (ha : 0 ≤ a) (hb : b ≤ 100) : ∀ v ∈ rgV a b, smV v := by
  intro v hv
  unfold rgV at hv
  obtain ⟨i, hi, rfl⟩ := List.mem_map.mp hv
  have := List.mem_range.mp hi
  exact smv_int (Nat.lt_of_le_of_lt (show (a + (i : Nat)).natAbs ≤ 100 by omega) (by decide))
theorem mat_pairs {b t : Addr} {G : Hp} {ys : List V} {L : List (Nat × Nat)} (h : SqT K (hid G b) t ys) (hy : DpAll K (hid G b) ys (L.map pairD)) (hl : L.length ≤ 24) (hs : ∀ p ∈ L, p.1 ≤ 1000 ∧ p.2 ≤ 1000) : MatI K b G (.ref t) := by
  refine ⟨.tuple (L.map pairD), .tup h hy, (sm_tuple (k := 1) (c := 108) (n := 24) (fun d hd => ?_) (by rw [List.length_map]; exact hl)).mono (by decide) (by decide), fun es z => by cases z; rw [List.length_map]; omega⟩
  obtain ⟨p, hp, rfl⟩ := List.mem_map.mp hd
  obtain ⟨h1, h2⟩ := hs p hp
  have z : ∀ i : Nat, i ≤ 1000 → Sm 0 50 (.int (i : Nat)) := fun i hi => sm_int (Nat.lt_of_le_of_lt (show ((i : Int)).natAbs ≤ 1000 by omega) (by decide))
  refine (sm_tuple (k := 0) (c := 50) (n := 2) (ds := [.int (p.1 : Nat), .int (p.2 : Nat)]) (fun d hd => ?_) (Nat.le_refl 2)).mono (by decide) (by decide)
  have hd' : d = .int (p.1 : Nat) ∨ d = .int (p.2 : Nat) := by simpa using hd
  rcases hd' with rfl | rfl
  · exact z _ h1
  · exact z _ h2
theorem cr_flip (i j p q : Int) : crI j i p q = crI i j p q := by
  unfold crI
  have e1 : (if i < j then i else j) = (if j < i then j else i) := by split <;> split <;> omega
  have e2 : (if j < i then i else j) = (if i < j then j else i) := by split <;> split <;> omega
  rw [e1, e2]
theorem cr_flip2 (i j p q : Int) : crI i j q p = crI i j p q := by
  unfold crI
  generalize (decide ((if j < i then j else i) < p) && decide (p < if i < j then j else i)) = a
  generalize (decide ((if j < i then j else i) < q) && decide (q < if i < j then j else i)) = b
  cases a <;> cases b <;> rfl
theorem cr_core {i j p q : Int} (h1 : i < j) (h2 : p < q) (h3 : i ≠ p) (h4 : i ≠ q) (h5 : j ≠ p) (h6 : j ≠ q) : crI p q i j = crI i j p q := by
  unfold crI
  rw [if_neg (show ¬ j < i by omega), if_pos h1, if_neg (show ¬ q < p by omega), if_pos h2]
  have n1 : decide (p < i) = !decide (i < p) := by rw [← decide_not]; exact decide_eq_decide.mpr (by omega)
  have n2 : decide (j < q) = !decide (q < j) := by rw [← decide_not]; exact decide_eq_decide.mpr (by omega)
  rw [n1, n2]
  cases a : decide (i < p) <;> cases b : decide (i < q) <;> cases c : decide (p < j) <;> cases d : decide (q < j)
  all_goals first
    | rfl
    | (exfalso; simp only [decide_eq_true_eq, decide_eq_false_iff_not] at a b c d; omega)
/-- the crossing of two pairs of four different numbers, told from either side -/
theorem cr_sym {i j p q : Int} (h1 : i ≠ j) (h2 : p ≠ q) (h3 : i ≠ p) (h4 : i ≠ q) (h5 : j ≠ p) (h6 : j ≠ q) : crI p q i j = crI i j p q := by
  rcases Int.lt_or_gt_of_ne h1 with a | a
  · rcases Int.lt_or_gt_of_ne h2 with b | b
    · exact cr_core a b h3 h4 h5 h6
    · rw [← cr_flip p q, ← cr_flip2 i j p q]; exact cr_core a b h4 h3 h6 h5
  · rcases Int.lt_or_gt_of_ne h2 with b | b
    · rw [← cr_flip2 p q i j, ← cr_flip i j]; exact cr_core a b h5 h6 h3 h4
    · rw [← cr_flip p q, ← cr_flip2 q p i j, ← cr_flip i j, ← cr_flip2 j i p q]; exact cr_core a b h6 h5 h4 h3
end
end K01

set_option Elab.async false
set_option linter.all false
set_option maxRecDepth 100000
set_option maxHeartbeats 8000000
namespace K01
open PySem PySem.Spec PyProof.Rows L2 Hs Hm
/-- a def as the callers see it -/
structure Fx (P : Program) (w : World) (K : PySem.W.Frag) (mg : Str → Option Value) (base : Heap) (k : Nat) (x : Str) (ps : List Str) (sp : Sp) (f : Addr) (fd : FuncData) : Prop where
  ok : FnOk P w K mg base CX0 k f fd ps sp
  m : mg x = some (.ref f)
  k : PySem.W.keepIn K (.ref f) = true
  b : Binds K fd ps []
/-- one that is called by keywords, too -/
structure Fk (P : Program) (w : World) (K : PySem.W.Frag) (mg : Str → Option Value) (base : Heap) (k : Nat) (x : Str) (ps ks : List Str) (gp : {α : Type} → List α → List α) (sp : Sp) (f : Addr) (fd : FuncData) : Prop extends Fx P w K mg base k x ps sp f fd where
  kw : KOnly fd ps ks gp
abbrev rightN : List Str := ["_law_box_here", "_law_hall_here", "_law_size", "_law_due", "_law_found", "_law_mixed", "_law_wild", "_law_matters", "_law_turn", "_law_matter", "_law_kept", "_law_some", "_law_duo", "_law_its", "_law_told", "_law_k"]
theorem scRight : FnScope rightN ["_law_box_here"] (defScope sRight) := ⟨rfl, rfl, rfl, by decide +kernel, rfl, by decide +kernel, by decide +kernel⟩
/-- tuple(mixed[2 * k:2 * k + 2]) -/
def tWild (K : PySem.W.Frag) : TE := tCB (fun xs H Q => ∃ p ys, xs = [.ref p] ∧ ((SqL K H p ys ∧ ∀ l, H l = none → Q (.ref l) (upd H l (.tup ys))) ∨ (SqT K H p ys ∧ Q (.ref p) H)))
  (tCons (tSl (rSlL K) (tVar 5) (tPart (tOp (rI CMul fun i j => .int (i * j)) (tC (.int 2)) (tVar 15))) (tPart (tOp (rI0 fun i j => .int (i + j)) (tOp (rI CMul fun i j => .int (i * j)) (tC (.int 2)) (tVar 15)) (tC (.int 2))))) tNil)
theorem arms_depth (m : Nat → Nat) (n : Nat) : PyData.depth (.list [.list ((armsN m n).map pairD), .list ((armsN m n).map pairD)]) < 8 := by
  have h : ∀ l : List (Nat × Nat), PyData.depthAll (l.map pairD) ≤ 1 := by
    intro l; induction l with
    | nil => exact Nat.zero_le _
    | cons x l ih => show max (PyData.depth (pairD x)) (PyData.depthAll (l.map pairD)) ≤ 1; exact Nat.max_le.mpr ⟨Nat.le_refl _, ih⟩
  have z := h (armsN m n)
  show max (PyData.depthAll ((armsN m n).map pairD) + 1) (max (PyData.depthAll ((armsN m n).map pairD) + 1) 0) + 1 < 8
  omega
theorem arms_num (m : Nat → Nat) (n : Nat) (h : n ≤ 24) : numL ((armsN m n).map pairD) ≤ 100 := by
  have h1 : ∀ l : List (Nat × Nat), numL (l.map pairD) = 3 * l.length := by
    intro l; induction l with
    | nil => rfl
    | cons x l ih =>
      show numD (pairD x) + numL (l.map pairD) = _
      rw [ih, List.length_cons]
      show 3 + 3 * l.length = _
      omega
  rw [h1]
  have := armsN_len m n
  omega
section
variable {P : Program} {w : World} {K : PySem.W.Frag} {mg : Str → Option Value} {base : Heap} {f : Addr} {fd : FuncData}
def spRight (K : PySem.W.Frag) : Sp := fun vs H Q _ => ∃ (b : Addr) (n : Nat), vs = [.ref b] ∧ BoxAt H b (n + 200) ∧ ∀ G, Ap b H G → BoxAt G b n → Q (.bl true) G
theorem ok_right {k : Nat} (F : Fun K "_law_right" "_law_right" sRight f fd) (B : B0 mg) (mrepr : mg "repr" = none) {fHa : Addr} {dHa : FuncData} (Ha : Fx P w K mg base k "_law_hall" ["_law_box_here", "_law_few"] (spHall K) fHa dHa) {fTa : Addr} {dTa : FuncData} (Ta : Fx P w K mg base k "_law_take" ["_law_box_here", "_law_below"] (spTake K) fTa dTa) {fPa : Addr} {dPa : FuncData} (Pa : Fx P w K mg base k "_law_pairs" ["_law_hall_here"] (spPairs K) fPa dPa) {fAr : Addr} {dAr : FuncData} (Ar : Fk P w K mg base k "arms" ["arrangement"] ["arrangement"] (fun l => l) (spArms K) fAr dAr) {fSa : Addr} {dSa : FuncData} (Sa : Fx P w K mg base k "_law_same" ["_law_found", "_law_due"] (spSame K 8) fSa dSa) {fSt : Addr} {dSt : FuncData} (St : Fx P w K mg base k "_law_strewn" ["_law_box_here", "_law_some"] (spStrewn K) fSt dSt) {fSe : Addr} {dSe : FuncData} (Se : Fx P w K mg base k "_law_seated" ["_law_size", "_law_duos"] (spSeated K) fSe dSe) {fBe : Addr} {dBe : FuncData} (Be : Fx P w K mg base k "_law_bent" ["_law_box_here", "_law_part"] (spBent K) fBe dBe) {fIh : Addr} {dIh : FuncData} (Ih : Fx P w K mg base k "_law_is_hall" ["_law_matter"] (spIsArr K) fIh dIh) {fIa : Addr} {dIa : FuncData} (Ia : Fk P w K mg base k "is_arrangement" ["thing"] ["thing"] (fun l => l) (spIsArr K) fIa dIa) {fCd : Addr} {dCd : FuncData} (Cd : Fx P w K mg base k "_law_crossed" ["_law_duo", "_law_its"] (spCrossed K) fCd dCd) {fCr : Addr} {dCr : FuncData} (Cr : Fk P w K mg base k "cross" ["one", "other"] ["other", "one"] swap2 (spCross K) fCr dCr) :
    FnG P w K mg base CX0 (k + 1) f fd ["_law_box_here"] (spRight K) := by
  refine fun_okG F scRight (fun vs H Q E h => ?_) (fun cdv A outer s H vs Q E gd0 hr h => ?_)
  · obtain ⟨b, n, rfl, _⟩ := h; rfl
  obtain ⟨b, n, rfl, hB, q⟩ := h
  have gd : (A.deeper (envOfC "_law_right" (defScope sRight) s.heap.objs.size f cdv)).guards = some [] := gd0
  refine ⟨_, (pss_cons (ps_set (i := 1) scRight.nd rfl (.inl rfl) (pe_call Ha.ok hr (by rfl) Ha.m Ha.k Ha.b .nil pass0 (pa_cons (pv 0) (pa_cons (pe_call Ta.ok hr (by rfl) Ta.m Ta.k Ta.b .nil pass0 (pa_cons (pv 0) (pa_cons pe_int pa_nil))) pa_nil))))
      (pss_cons (ps_par (i := 2) (j := 3) (by rfl) scRight.nd rfl rfl (by decide) rfl rfl (pa_cons (pe_callB call_len_seq (by rfl) B.len PySem.boot_len (pa_cons (pv 1) pa_nil)) (pa_cons (pe_call Pa.ok hr (by rfl) Pa.m Pa.k Pa.b .nil pass0 (pa_cons (pv 1) pa_nil)) pa_nil)) (by rfl))
      (pss_cons (ps_set (i := 4) scRight.nd rfl (.inl rfl) (pe_lst (pa_cons (pe_call Ar.ok hr (by rfl) Ar.m Ar.k Ar.b .nil pass0 (pa_cons (pv 1) pa_nil)) (pa_cons (pe_kw0 Ar.ok hr (by rfl) Ar.m Ar.k Ar.kw pass0 (pk_cons (pe_callTy call_list_of (by rfl) B.list PyProof.Rows.boot_list (pa_cons (pv 1) pa_nil)) pk_nil)) pa_nil))))
      (pss_cons (ps_if (pt_not (pt_val (pe_call Sa.ok hr (by rfl) Sa.m Sa.k Sa.b .nil pass0 (pa_cons (pv 4) (pa_cons (pe_lst (pa_cons (pv 3) (pa_cons (pv 3) pa_nil))) pa_nil))))) (pss_one (ps_ret pe_bl)) pss_nil)
      (pss_cons (ps_expr (pe_bm PySem.F.plainAttrs_list PySem.F.slot_list_append PySem.F.type_list_append mt_append (pe_ix ix_list (pv 4) pe_int (fun _ _ => rfl)) (pa_cons pe_str pa_nil)))
      (pss_cons (ps_set (i := 5) scRight.nd rfl (.inr rfl) (pe_call St.ok hr (by rfl) St.m St.k St.b .nil pass0 (pa_cons (pv 0) (pa_cons (pe_listRg rfl (by rfl) B.list (prg_1 (by rfl) B.range (pv 2))) pa_nil))))
      (pss_cons (ps_set (i := 6) scRight.nd rfl (.inl rfl) (pe_call Se.ok hr (by rfl) Se.m Se.k Se.b .nil pass0 (pa_cons (pv 2) (pa_cons (pe_lc (own := [("_law_k", 15)]) (g := gName 15) (tt := tYes) (te := tWild K) (by rfl) scRight.nd (pi_range1 (by rfl) B.range (pa_cons (pe_op op_fdiv (pv 2) pe_int) pa_nil)) (blkOk_by (N := rightN) (sc := defScope sRight) (by decide +kernel)) (fun _ _ _ _ _ => pg_name (i := 15) scRight.nd rfl (Or.inl rfl)) (fun _ _ _ _ _ => pts_nil) (fun _ _ _ _ _ => pe_callTy call_tuple_of (by rfl) B.tuple PyProof.Rows.boot_tuple (pa_cons (pe_slice sl_list (pv 5) (po_some (pe_op op_mul pe_int (pv 15))) (po_some (pe_op op_add (pe_op op_mul pe_int (pv 15)) pe_int))) pa_nil))) pa_nil))))
      (pss_cons (ps_set (i := 7) scRight.nd rfl (.inl rfl) (pe_lst (pa_cons (pv 1) (pa_cons (pe_callTy call_list_of (by rfl) B.list PyProof.Rows.boot_list (pa_cons (pv 1) pa_nil)) (pa_cons (pv 6) (pa_cons (pe_revT (pv 1)) (pa_cons (pe_slice sl_tupU (pv 1) (po_some pe_int) po_none) (pa_cons (pe_op op_catU (pv 1) (pe_tup (pa_cons pe_int pa_nil))) (pa_cons (pe_slice sl_tupU (pv 1) po_none (po_some (pe_un un_neg pe_int))) (pa_cons (pe_tup pa_nil) (pa_cons (pe_lst pa_nil) (pa_cons pe_non (pa_cons pe_int (pa_cons pe_str (pa_cons (pe_tup (pa_cons pe_int pa_nil)) pa_nil)))))))))))))))
      (pss_cons (ps_set (i := 7) scRight.nd rfl (.inl rfl) (pe_op op_cat (pv 7) (pe_lst (pa_cons (pe_tup (pa_cons pe_int (pa_cons pe_int pa_nil))) (pa_cons (pe_tup (pa_cons pe_int (pa_cons pe_int pa_nil))) (pa_cons (pe_tup (pa_cons pe_int (pa_cons pe_int (pa_cons pe_int (pa_cons pe_int pa_nil))))) (pa_cons (pe_tup (pa_cons pe_int (pa_cons pe_int (pa_cons pe_int (pa_cons pe_int pa_nil))))) (pa_cons (pe_tup (pa_cons pe_int (pa_cons pe_int (pa_cons pe_int pa_nil)))) (pa_cons (pe_tup (pa_cons pe_int (pa_cons pe_int (pa_cons pe_int pa_nil)))) (pa_cons (pe_tup (pa_cons pe_bl (pa_cons pe_bl pa_nil))) (pa_cons (pe_tup (pa_cons pe_int (pa_cons pe_bl pa_nil))) pa_nil)))))))))))
      (pss_cons (ps_set (i := 7) scRight.nd rfl (.inl rfl) (pe_op op_cat (pv 7) (pe_lst (pa_cons (pe_tup (pa_cons pe_int (pa_cons pe_int (pa_cons pe_int (pa_cons pe_int pa_nil))))) (pa_cons (pe_tup (pa_cons (pe_tup (pa_cons pe_int pa_nil)) (pa_cons (pe_tup (pa_cons pe_int pa_nil)) pa_nil))) (pa_cons (pe_tup (pa_cons pe_str (pa_cons pe_str pa_nil))) (pa_cons (pe_tup (pa_cons pe_non (pa_cons pe_int pa_nil))) (pa_cons (pe_tup (pa_cons (pe_un un_neg pe_int) (pa_cons pe_int pa_nil))) (pa_cons (pe_tup (pa_cons pe_int (pa_cons (pe_un un_neg pe_int) pa_nil))) (pa_cons (pe_tup (pa_cons (pe_op op_pow pe_int pe_int) (pa_cons pe_int pa_nil))) pa_nil))))))))))
      (pss_cons (ps_set (i := 7) scRight.nd rfl (.inl rfl) (pe_op op_cat (pv 7) (pe_lst (pa_cons (pe_callTy call_tuple_of (by rfl) B.tuple PyProof.Rows.boot_tuple (pa_cons (pv 3) pa_nil)) pa_nil))))
      (pss_cons (ps_set (i := 7) scRight.nd rfl (.inl rfl) (pe_op op_cat (pv 7) (pe_lst (pa_cons (pe_tup (pa_cons pe_int (pa_cons pe_int (pa_cons pe_int (pa_cons pe_int pa_nil))))) (pa_cons (pe_tup (pa_cons pe_int (pa_cons pe_int pa_nil))) pa_nil)))))
      (pss_cons (ps_set (i := 7) scRight.nd rfl (.inl rfl) (pe_op op_cat (pv 7) (pe_lst (pa_cons (pe_revT (pe_tupRg rfl (by rfl) B.tuple (prg_1 (by rfl) B.range pe_int))) (pa_cons (pe_revT (pe_tupRg rfl (by rfl) B.tuple (prg_1 (by rfl) B.range pe_int))) (pa_cons (pe_op op_catU (pe_tup (pa_cons pe_int (pa_cons pe_int (pa_cons pe_int (pa_cons pe_int pa_nil))))) (pe_revT (pe_tupRg rfl (by rfl) B.tuple (prg_2 (by rfl) B.range pe_int pe_int)))) pa_nil))))))
      (pss_cons (ps_for PassesOwn.never rfl (pi_range1 (by rfl) B.range (pa_cons pe_int pa_nil)) (pg_name (i := 8) scRight.nd rfl (.inl rfl)) (pss_one (ps_expr (pe_bm PySem.F.plainAttrs_list PySem.F.slot_list_append PySem.F.type_list_append mt_append (pv 7) (pa_cons (pe_call Be.ok hr (by rfl) Be.m Be.k Be.b .nil pass0 (pa_cons (pv 0) (pa_cons (pv 1) pa_nil))) pa_nil)))))
      (pss_cons (ps_for PassesOwn.never rfl (pi_list (pv 7)) (pg_name (i := 9) scRight.nd rfl (.inl rfl)) (pss_cons (ps_par (i := 10) (j := 3) (by rfl) scRight.nd rfl rfl (by decide) rfl rfl (pa_cons (pe_callB (call_reprD gd hr.units) (by rfl) mrepr PyProof.Rows.boot_repr (pa_cons (pv 9) pa_nil)) (pa_cons (pe_call Ih.ok hr (by rfl) Ih.m Ih.k Ih.b .nil pass0 (pa_cons (pv 9) pa_nil)) pa_nil)) (by rfl))
      (pss_one (ps_if (PW.pt (pw_or (pt_not (pt_val (pe_call Sa.ok hr (by rfl) Sa.m Sa.k Sa.b .nil pass0 (pa_cons (pe_lst (pa_cons (pe_call Ia.ok hr (by rfl) Ia.m Ia.k Ia.b .nil pass0 (pa_cons (pv 9) pa_nil)) (pa_cons (pe_kw0 Ia.ok hr (by rfl) Ia.m Ia.k Ia.kw pass0 (pk_cons (pv 9) pk_nil)) pa_nil))) (pa_cons (pe_lst (pa_cons (pv 3) (pa_cons (pv 3) pa_nil))) pa_nil))))) (pw_or1 (pt_cmpR op_ne (pe_callB (call_reprD gd hr.units) (by rfl) mrepr PyProof.Rows.boot_repr (pa_cons (pv 9) pa_nil)) (pv 10) (nomark _))))) (pss_one (ps_ret pe_bl)) pss_nil))))
      (pss_cons (ps_for PassesOwn.never rfl (pi_range1 (by rfl) B.range (pa_cons pe_int pa_nil)) (pg_name (i := 8) scRight.nd rfl (.inl rfl)) (pss_cons (ps_set (i := 11) scRight.nd rfl (.inl rfl) (pe_call St.ok hr (by rfl) St.m St.k St.b .nil pass0 (pa_cons (pv 0) (pa_cons (pe_listRg rfl (by rfl) B.list (prg_1 (by rfl) B.range pe_int)) pa_nil))))
      (pss_cons (ps_par (i := 12) (j := 13) (by rfl) scRight.nd rfl rfl (by decide) rfl rfl (pa_cons (pe_callTy call_tuple_of (by rfl) B.tuple PyProof.Rows.boot_tuple (pa_cons (pe_slice sl_list (pv 11) po_none (po_some pe_int)) pa_nil)) (pa_cons (pe_callTy call_tuple_of (by rfl) B.tuple PyProof.Rows.boot_tuple (pa_cons (pe_slice sl_list (pv 11) (po_some pe_int) (po_some pe_int)) pa_nil)) pa_nil)) (by rfl))
      (pss_cons (ps_set (i := 3) scRight.nd rfl (.inl rfl) (pe_call Cd.ok hr (by rfl) Cd.m Cd.k Cd.b .nil pass0 (pa_cons (pv 12) (pa_cons (pv 13) pa_nil))))
      (pss_cons (ps_set (i := 14) scRight.nd rfl (.inl rfl) (pe_lst (pa_cons (pe_call Cr.ok hr (by rfl) Cr.m Cr.k Cr.b .nil pass0 (pa_cons (pv 12) (pa_cons (pv 13) pa_nil))) (pa_cons (pe_call Cr.ok hr (by rfl) Cr.m Cr.k Cr.b .nil pass0 (pa_cons (pv 13) (pa_cons (pv 12) pa_nil))) (pa_cons (pe_call Cr.ok hr (by rfl) Cr.m Cr.k Cr.b .nil pass0 (pa_cons (pe_revT (pv 12)) (pa_cons (pe_callTy call_list_of (by rfl) B.list PyProof.Rows.boot_list (pa_cons (pv 13) pa_nil)) pa_nil))) (pa_cons (pe_kw0 Cr.ok hr (by rfl) Cr.m Cr.k Cr.kw pass0 (pk_cons (pe_revT (pv 13)) (pk_cons (pe_callTy call_list_of (by rfl) B.list PyProof.Rows.boot_list (pa_cons (pv 12) pa_nil)) pk_nil))) pa_nil))))))
      (pss_one (ps_if (pt_not (pt_val (pe_call Sa.ok hr (by rfl) Sa.m Sa.k Sa.b .nil pass0 (pa_cons (pv 14) (pa_cons (pe_op op_rep (pe_lst (pa_cons (pv 3) pa_nil)) pe_int) pa_nil))))) (pss_one (ps_ret pe_bl)) pss_nil)))))))
      (pss_cons (ps_set (i := 14) scRight.nd rfl (.inl rfl) (pe_lst (pa_cons (pe_call Cr.ok hr (by rfl) Cr.m Cr.k Cr.b .nil pass0 (pa_cons (pe_tup (pa_cons (pe_un un_neg pe_int) (pa_cons (pe_op op_pow pe_int pe_int) pa_nil))) (pa_cons (pe_tup (pa_cons pe_int (pa_cons (pe_op op_pow pe_int pe_int) pa_nil))) pa_nil))) (pa_cons (pe_call Cr.ok hr (by rfl) Cr.m Cr.k Cr.b .nil pass0 (pa_cons (pe_tup (pa_cons (pe_un un_neg pe_int) (pa_cons (pe_op op_pow pe_int pe_int) pa_nil))) (pa_cons (pe_tup (pa_cons pe_int (pa_cons pe_int pa_nil))) pa_nil))) (pa_cons (pe_call Cr.ok hr (by rfl) Cr.m Cr.k Cr.b .nil pass0 (pa_cons (pe_tup (pa_cons pe_int (pa_cons (pe_un un_neg pe_int) pa_nil))) (pa_cons (pe_tup (pa_cons (pe_un un_neg pe_int) (pa_cons (pe_un un_neg pe_int) pa_nil))) pa_nil))) pa_nil)))))
      (pss_one (ps_ret (pe_call Sa.ok hr (by rfl) Sa.m Sa.k Sa.b .nil pass0 (pa_cons (pe_op op_cat (pv 14) (pe_lst (pa_cons (pe_call Ar.ok hr (by rfl) Ar.m Ar.k Ar.b .nil pass0 (pa_cons (pv 1) pa_nil)) pa_nil))) (pa_cons (pe_lst (pa_cons pe_bl (pa_cons pe_bl (pa_cons pe_bl (pa_cons (pe_call Pa.ok hr (by rfl) Pa.m Pa.k Pa.b .nil pass0 (pa_cons (pv 1) pa_nil)) pa_nil))))) pa_nil)))))))))))))))))))))), ?_⟩
  -- hall = _law_hall(box, take(box, 13))
  refine ⟨_, rfl, _, rfl, b, 13, n + 199, rfl, by decide, by decide, hB, fun r G1 r0 r1 ap1 hB1 => ?_⟩
  obtain ⟨c, rfl⟩ := Int.eq_ofNat_of_zero_le r0
  have hc : c ≤ 12 := by omega
  refine ⟨b, c, n + 175, rfl, hc, hB1.mono (by omega), fun h m G2 hm ap2 hB2 nh hh => ?_⟩
  have hne : h ≠ b := box_ne hB1 nh
  have apA := ap1.trans ap2
  have c24 : 2 * c ≤ 24 := by omega
  -- size, due = (len(hall), pairs(hall))
  refine ⟨_, rfl, h, _, rfl, .inr (SqT.of hh), _, rfl, h, 2 * c, m, rfl, SqT.of hh, by omega, fun pd ys G3 sm3 npd hpd dys => ⟨_, _, rfl, ?_⟩⟩
  rw [rowV_len]
  have hh3 := sm3 h _ hh
  -- found = [arms(hall), arms(arrangement=list(hall))]
  refine ⟨_, rfl, h, 2 * c, m, rfl, .inl (SqT.of hh3), by omega, fun p1 ys1 G4 sm4 np1 hp1 d1 => ?_⟩
  have hh4 := sm4 h _ hh3
  refine ⟨_, rfl, h, _, rfl, .inr (SqT.of hh4), fun l nl => ⟨rfl, l, 2 * c, m, rfl, .inr (SqL.of upd_same), by omega, fun p2 ys2 G5 sm5 np2 hp2 d2 => ⟨(by show 2 ≤ sizeLine; decide), fun pf nf => ?_⟩⟩⟩
  have smL := same_new (o := .lst (rowV (2 * c) m)) nl
  have smF := same_new (o := .lst [.ref p1, .ref p2]) nf
  have sm45 := smL.trans sm5
  have hp1F : (upd G5 pf (.lst [.ref p1, .ref p2])) p1 = some (.lst ys1) := smF _ _ (sm45 _ _ hp1)
  have d1F := same_dps (sm45.trans smF) d1
  have d2F := same_dps smF d2
  have smAll := (sm3.trans (sm4.trans (sm45.trans smF)))
  have dyF := same_dps (sm4.trans (sm45.trans smF)) dys
  have hpdF : (upd G5 pf (.lst [.ref p1, .ref p2])) pd = some (.lst ys) := smF _ _ (sm45 _ _ (sm4 _ _ hpd))
  have hp2F : (upd G5 pf (.lst [.ref p1, .ref p2])) p2 = some (.lst ys2) := smF _ _ hp2
  have hpfF : (upd G5 pf (.lst [.ref p1, .ref p2])) pf = some (.lst [.ref p1, .ref p2]) := upd_same
  have hhF := smAll h _ hh
  have n1pd : p1 ≠ pd := fun z => by rw [z, hpd] at np1; cases np1
  have n1h : p1 ≠ h := fun z => by rw [z, hh3] at np1; cases np1
  have apF := apA.trans (ap_same (b := b) smAll)
  have hBF := hB2.same smAll
  have n1b : p1 ≠ b := box_ne (hB2.same sm3) np1
  have npdb : pd ≠ b := box_ne hB2 npd
  generalize upd G5 pf (.lst [.ref p1, .ref p2]) = G6 at hp1F d1F d2F dyF hpdF hp2F hpfF hhF apF hBF
  -- if not same(found, [due, due])
  refine ⟨_, rfl, _, rfl, _, rfl, (by show 2 ≤ sizeLine; decide), fun pl npl => ?_⟩
  have smP := same_new (o := .lst [.ref pd, .ref pd]) npl
  have armNum : numL ((armsN m (2 * c)).map pairD) ≤ 100 := arms_num m (2 * c) c24
  refine ⟨_, _, .list [.list ((armsN m (2 * c)).map pairD), .list ((armsN m (2 * c)).map pairD)], rfl, .lst (SqL.of (smP _ _ hpfF)) (.cons (.lst (SqL.of (smP _ _ hp1F)) (same_dps smP d1F)) (.cons (.lst (SqL.of (smP _ _ hp2F)) (same_dps smP d2F)) .nil)),
    .lst (SqL.of upd_same) (.cons (.lst (SqL.of (smP _ _ hpdF)) (same_dps smP dyF)) (.cons (.lst (SqL.of (smP _ _ hpdF)) (same_dps smP dyF)) .nil)), arms_depth m (2 * c), ?_, fun G7 sm7 => ⟨_, rfl, iteF ?_⟩⟩
  · show numL ((armsN m (2 * c)).map pairD) + 1 + (numL ((armsN m (2 * c)).map pairD) + 1 + 0) + 1 ≤ 100000
    omega
  have sm67 := smP.trans sm7
  have hp1G := sm67 _ _ hp1F
  have hpfG := sm67 _ _ hpfF
  -- found[0].append('more')
  refine ⟨_, rfl, pf, _, 0, _, rfl, rfl, SqL.of hpfG, rfl, .inl ⟨rfl, _, SqL.of hp1G⟩, p1, _, _, rfl, rfl, hp1G, ?_, ?_⟩
  · have z := dpAll_len d1
    rw [List.length_map] at z
    have z2 := armsN_len m (2 * c)
    exact small1000 (by omega)
  -- what stands, p1 aside
  have hh8 : (upd G7 p1 (.lst (ys1 ++ [.str "more"]))) h = some (.tup (rowV (2 * c) m)) := tup_up (sm67 _ _ hhF) hp1G
  have hpd8 : (upd G7 p1 (.lst (ys1 ++ [.str "more"]))) pd = some (.lst ys) := by rw [upd_ne n1pd.symm]; exact sm67 _ _ hpdF
  have hB8 := box_up (o := .lst (ys1 ++ [.str "more"])) (hBF.same sm67) n1b
  have np1H : H p1 = none := ap_none (apA.trans (ap_same (b := b) sm3)) (hB2.same sm3) np1
  have ap8 : Ap b H (upd G7 p1 (.lst (ys1 ++ [.str "more"]))) := ap_up (apF.trans (ap_same (b := b) sm67)) np1H
  have dy8 : DpAll K (hid (upd G7 p1 (.lst (ys1 ++ [.str "more"]))) b) ys ((armsN m (2 * c)).map pairD) := by
    obtain ⟨x', y', z', e', _⟩ := hB8
    exact pairs_map (fun t xs ht => sqT_hid (sqT_up (same_tup sm67 ht) hp1G) e') dyF
  generalize upd G7 p1 (.lst (ys1 ++ [.str "more"])) = G8 at hh8 hpd8 hB8 ap8 dy8
  -- mixed = strewn(box, list(range(size)))
  refine ⟨_, rfl, _, rfl, ((2 * c : Nat) : Int), rfl, RgOk.of_le (by omega) (by omega) (by omega) (by omega), fun pr npr => ?_⟩
  rw [rg_nat]
  have smR := same_new (o := .lst (((List.range (2 * c)).map fun i => ((i : Nat) : Int)).map V.int)) npr
  have nprb : pr ≠ b := box_ne hB8 npr
  refine ⟨b, pr, _, n + 151, rfl, SqL.of (hid_lst upd_same nprb), ?_, (hB8.same smR).mono ?_, fun px ms G9 perm ap9 hB9 npx hpx => ?_⟩
  · rw [List.length_map, List.length_range]; omega
  · rw [List.length_map, List.length_range]; omega
  have mslen : ms.length = 2 * c := by rw [perm.length_eq, List.length_map, List.length_range]
  have msnat : ∀ i (hi : i < ms.length), ∃ a : Nat, ms[i] = (a : Int) ∧ a < 2 * c := fun i hi => by
    have z := perm.subset (List.getElem_mem hi)
    obtain ⟨a, ha, e⟩ := List.mem_map.mp z
    exact ⟨a, e.symm, List.mem_range.mp ha⟩
  have apR := (ap8.trans (ap_same (b := b) smR)).trans ap9
  have hh9 : G9 h = some (.tup (rowV (2 * c) m)) := tup_ap (smR _ _ hh8) (hB8.same smR) ap9
  have hpd9 : G9 pd = some (.lst ys) := ap_get ap9 (smR _ _ hpd8) npdb
  have dy9 := same_dps (Same.trans (ap_same (b := b) smR) ap9) dy8
  clear dy8 hpd8 hh8
  -- wild = seated(size, [tuple(mixed[2 * k:2 * k + 2]) for k in range(size // 2)])
  refine ⟨_, rfl, _, rfl, _, _, rfl, rfl, ⟨by decide, by decide⟩, _, rfl, by omega, by omega, fun D nD => ?_⟩
  have hhalf : ((((2 * c : Nat) : Int)) / 2).toNat = c := by omega
  rw [hhalf]
  refine lc_it (walk_range (lo := 0) (n := c)) (fun i G => Same G9 G ∧ ∃ L : List Iv, G D = some (.lst (L.map fun e => V.ref e.1)) ∧ L.length = i ∧ ∀ e ∈ L, G e.1 = some (.tup [.int (e.2.1 : Nat), .int (e.2.2 : Nat)]) ∧ e.2.1 < 2 * c ∧ e.2.2 < 2 * c)
    ⟨same_new nD, [], upd_same, rfl, fun e he => by cases he⟩ (fun _ _ _ _ => trivial) (fun i x G G' hi p y => ?_) (fun G p => ?_)
  · obtain ⟨sm, L, hD, hLl, hL⟩ := p
    obtain ⟨rfl, rfl⟩ := y
    obtain ⟨a0, ea0, la0⟩ := msnat (2 * i) (by omega)
    obtain ⟨a1, ea1, la1⟩ := msnat (2 * i + 1) (by omega)
    refine ⟨rfl, _, rfl, _, rfl, _, _, rfl, rfl, .inl ⟨by decide, by decide⟩, _, rfl, _, rfl, _, _, rfl, rfl, .inl ⟨by decide, by decide⟩, _, _, rfl, rfl, _, rfl, px, _, rfl, SqL.of (sm _ _ hpx), fun sx nsx => ?_⟩
    have ec : cutV (ms.map V.int) (some ((2 : Int) * (0 + (i : Int)))) (some ((2 : Int) * (0 + (i : Int)) + 2)) = [.int (a0 : Nat), .int (a1 : Nat)] := by
      rw [Int.zero_add, cutV_two _ _ (by rw [List.length_map]; omega)]
      simp only [List.getElem_map]
      rw [ea0, ea1]
    rw [ec]
    have smX := same_new (o := .lst [V.int (a0 : Nat), .int (a1 : Nat)]) nsx
    refine ⟨sx, _, rfl, .inl ⟨SqL.of upd_same, fun tx ntx => ?_⟩⟩
    have smT := same_new (o := .tup [V.int (a0 : Nat), .int (a1 : Nat)]) ntx
    have smXT := smX.trans smT
    have hDt := smXT _ _ hD
    refine ⟨_, hDt, ?_, same_grow nD (sm.trans smXT), L ++ [(tx, a0, a1)], ?_, ?_, ?_⟩
    · rw [List.length_map]; exact small1000 (by omega)
    · rw [upd_same, List.map_append]; rfl
    · rw [List.length_append, hLl]; rfl
    · intro e he
      rcases List.mem_append.mp he with z | z
      · obtain ⟨z1, z2⟩ := hL e z
        exact ⟨tup_up (smXT _ _ z1) hDt, z2⟩
      · have z' : e = (tx, a0, a1) := by simpa using z
        subst z'
        exact ⟨tup_up upd_same hDt, la0, la1⟩
  · obtain ⟨smD, L, hD, hLl, hL⟩ := p
    refine ⟨D, 2 * c, L, rfl, c24, SqL.of hD, hL, fun pw mw G10 hmw sm10 hpw => ?_⟩
    have smW := smD.trans sm10
    have hh10 := smW _ _ hh9
    have hpd10 := smW _ _ hpd9
    have hB10 := hB9.same smW
    have ap10 := apR.trans (ap_same (b := b) smW)
    have dy10 := same_dps (ap_same (b := b) smW) dy9
    clear hh9 hpd9 dy9 hD hL npr smR hpx
    have hbL : ∃ zs, G10 b = some (.lst zs) := by
      obtain ⟨x', y', z', e', _⟩ := hB10
      exact ⟨_, e'⟩
    -- matters = [hall, list(hall), wild, hall[::-1], hall[1:], hall + (0,), hall[:-1], (), [], None, 0, '1 0', (0,)]
    refine ⟨_, rfl, _, rfl, h, _, rfl, .inr (SqT.of hh10), fun q1 nq1 => ?_⟩
    have t1 := same_new (o := .lst (rowV (2 * c) m)) nq1
    refine ⟨_, rfl, _, rfl, h, _, rfl, SqT.of (t1 _ _ hh10), fun q2 nq2 => ?_⟩
    have t2 := t1.trans (same_new (o := .tup (rowV (2 * c) m).reverse) nq2)
    refine ⟨_, rfl, 1, rfl, h, _, rfl, SqT.of (t2 _ _ hh10), fun q3 J3 u3 hq3 => ?_⟩
    have t3 := t2.trans u3
    refine ⟨_, rfl, (by show 1 ≤ sizeLine; decide), fun q4 nq4 => ⟨h, q4, _, _, rfl, rfl, SqT.of (same_new nq4 _ _ (t3 _ _ hh10)), SqT.of upd_same, ?_, fun q5 J5 u5 hq5 => ?_⟩⟩
    · rw [rowV_len]; show 2 * c + 1 ≤ sizeLine; exact sizeBig (by omega)
    have t5 := (t3.trans (same_new (o := .tup [.int 0]) nq4)).trans u5
    refine ⟨_, rfl, 1, rfl, -1, rfl, h, _, rfl, SqT.of (t5 _ _ hh10), fun q6 J6 u6 hq6 => ?_⟩
    have t6 := t5.trans u6
    refine ⟨Nat.zero_le _, fun q7 nq7 => ⟨Nat.zero_le _, fun q8 nq8 => ⟨(by show 1 ≤ sizeLine; decide), fun q9 nq9 => ⟨(by show 13 ≤ sizeLine; decide), fun M1 nM1 => ?_⟩⟩⟩⟩
    have u7 := same_new (o := .tup []) nq7
    have u8 := same_new (o := .lst []) nq8
    have u9 := same_new (o := .tup [.int 0]) nq9
    have uM := same_new (o := .lst [V.ref h, .ref q1, .ref pw, .ref q2, .ref q3, .ref q5, .ref q6, .ref q7, .ref q8, .non, .int 0, .str "1 0", .ref q9]) nM1
    have v9 := u9.trans uM
    have v8 := u8.trans v9
    have v7 := u7.trans v8
    have v6 := u6.trans v7
    have v5 := u5.trans v6
    have v4 := (same_new (o := .tup [.int 0]) nq4).trans v5
    have v3 := u3.trans v4
    have v2 := (same_new (o := .tup (rowV (2 * c) m).reverse) nq2).trans v3
    have v1 := t1.trans v2
    have hM1 := upd_same (H := (upd (upd (upd J6 q7 (.tup [])) q8 (.lst [])) q9 (.tup [.int 0]))) (a := M1) (o := .lst [V.ref h, .ref q1, .ref pw, .ref q2, .ref q3, .ref q5, .ref q6, .ref q7, .ref q8, .non, .int 0, .str "1 0", .ref q9])
    have hh11 := v1 _ _ hh10
    have hpd11 := v1 _ _ hpd10
    have hB11 := hB10.same v1
    have ap11 := ap10.trans (ap_same (b := b) v1)
    have dy11 := same_dps (ap_same (b := b) v1) dy10
    have nM1b : M1 ≠ b := box_ne (hB10.same (t6.trans (u7.trans (u8.trans u9)))) nM1
    have w1 := v2 _ _ (upd_same (H := G10) (a := q1) (o := .lst (rowV (2 * c) m)))
    have wpw := v1 _ _ hpw
    have w2 := v3 _ _ (upd_same (a := q2) (o := .tup (rowV (2 * c) m).reverse))
    have w3 := same_tup v4 hq3
    have w5 := same_tup v6 hq5
    have w6 := same_tup v7 hq6
    have w7 := v8 _ _ (upd_same (a := q7) (o := .tup []))
    have w8 := v9 _ _ (upd_same (a := q8) (o := .lst []))
    have w9 := uM _ _ (upd_same (a := q9) (o := .tup [.int 0]))
    have nq1b : q1 ≠ b := box_ne hB10 nq1
    have nq8b : q8 ≠ b := box_ne (hB10.same (t6.trans u7)) nq8
    generalize (upd (upd (upd (upd J6 q7 (.tup [])) q8 (.lst [])) q9 (.tup [.int 0])) M1 (.lst [V.ref h, .ref q1, .ref pw, .ref q2, .ref q3, .ref q5, .ref q6, .ref q7, .ref q8, .non, .int 0, .str "1 0", .ref q9])) = G11 at hM1 hh11 hpd11 hB11 ap11 dy11 w1 wpw w2 w3 w5 w6 w7 w8 w9
    have hb11 : ∃ zs, G11 b = some (.lst zs) := by
      obtain ⟨x', y', z', e', _⟩ := hB11
      exact ⟨_, e'⟩
    obtain ⟨zs11, hb11⟩ := hb11
    have A1 : ∀ x ∈ [V.ref h, .ref q1, .ref pw, .ref q2, .ref q3, .ref q5, .ref q6, .ref q7, .ref q8, .non, .int 0, .str "1 0", .ref q9], MatI K b G11 x := by
      have row := smv_row (n := 2 * c) hm
      have rl : (rowV (2 * c) m).length ≤ 50 := by rw [rowV_len]; omega
      intro x hx
      simp only [List.mem_cons, List.mem_nil_iff, or_false] at hx
      rcases hx with rfl | rfl | rfl | rfl | rfl | rfl | rfl | rfl | rfl | rfl | rfl | rfl | rfl
      · exact mat_tup (sqT_hid (SqT.of hh11) hb11) row rl
      · exact mat_lst (SqL.of (hid_lst w1 nq1b)) row rl
      · exact mat_tup (sqT_hid (SqT.of wpw) hb11) (smv_row hmw) (by rw [rowV_len]; omega)
      · exact mat_tup (sqT_hid (SqT.of w2) hb11) (fun v hv => row v (List.mem_reverse.mp hv)) (by rw [List.length_reverse]; exact rl)
      · exact mat_tup (sqT_hid w3 hb11) (fun v hv => row v (cut_mem hv)) (Nat.le_trans (cutV_length _ _ _) rl)
      · refine mat_tup (sqT_hid w5 hb11) (fun v hv => ?_) (by rw [List.length_append, rowV_len]; show 2 * c + 1 ≤ 50; omega)
        rcases List.mem_append.mp hv with z | z
        · exact row v z
        · have z' : v = .int 0 := by simpa using z
          rw [z']; exact smv_int (by decide)
      · exact mat_tup (sqT_hid w6 hb11) (fun v hv => row v (cut_mem hv)) (Nat.le_trans (cutV_length _ _ _) rl)
      · exact mat_tup (sqT_hid (SqT.of w7) hb11) (fun v hv => by cases hv) (by decide)
      · exact mat_lst (SqL.of (hid_lst w8 nq8b)) (fun v hv => by cases hv) (by decide)
      · exact mat_val smv_non (fun d hd ds z => by rw [z] at hd; cases hd)
      · exact mat_val (smv_int (by decide)) (fun d hd ds z => by rw [z] at hd; cases hd)
      · exact mat_val (smv_str (s := "1 0") (by decide)) (fun d hd ds z => by rw [z] at hd; cases hd)
      · exact mat_tup (sqT_hid (SqT.of w9) hb11) (smv_cons (smv_i (by decide)) smv_nil) (by decide)
    clear v1 v2 v3 v4 v5 v6 v7 v8 v9 u3 u5 u6 u7 u8 u9 uM t1 t2 t3 t5 t6 hq3 hq5 hq6 hpw w1 wpw w2 w3 w5 w6 w7 w8 w9 hh10 hpd10 dy10 nq1 nq2 nq4 nq7 nq8 nq9 nM1
    generalize hX1 : [V.ref h, .ref q1, .ref pw, .ref q2, .ref q3, .ref q5, .ref q6, .ref q7, .ref q8, .non, .int 0, .str "1 0", .ref q9] = XS1 at hM1 A1
    have lX1 : XS1.length = 13 := by rw [← hX1]; rfl
    clear hX1
    refine ⟨_, rfl, (by show 2 ≤ sizeLine; decide), fun xa0 nxa0 => ⟨(by show 2 ≤ sizeLine; decide), fun xa1 nxa1 => ⟨(by show 4 ≤ sizeLine; decide), fun xa2 nxa2 => ⟨(by show 4 ≤ sizeLine; decide), fun xa3 nxa3 => ⟨(by show 3 ≤ sizeLine; decide), fun xa4 nxa4 => ⟨(by show 3 ≤ sizeLine; decide), fun xa5 nxa5 => ⟨(by show 2 ≤ sizeLine; decide), fun xa6 nxa6 => ⟨(by show 2 ≤ sizeLine; decide), fun xa7 nxa7 => ⟨(by show 8 ≤ sizeLine; decide), fun xL nxL => ?_⟩⟩⟩⟩⟩⟩⟩⟩⟩
    have sxa0 := same_new (o := .tup [V.int 1, V.int 0]) nxa0
    have cxa0 := sxa0
    have sxa1 := same_new (o := .tup [V.int 0, V.int 1]) nxa1
    have cxa1 := cxa0.trans sxa1
    have sxa2 := same_new (o := .tup [V.int 2, V.int 3, V.int 0, V.int 1]) nxa2
    have cxa2 := cxa1.trans sxa2
    have sxa3 := same_new (o := .tup [V.int 3, V.int 2, V.int 1, V.int 0]) nxa3
    have cxa3 := cxa2.trans sxa3
    have sxa4 := same_new (o := .tup [V.int 1, V.int 0, V.int 2]) nxa4
    have cxa4 := cxa3.trans sxa4
    have sxa5 := same_new (o := .tup [V.int 1, V.int 0, V.int 3]) nxa5
    have cxa5 := cxa4.trans sxa5
    have sxa6 := same_new (o := .tup [V.bl true, .bl false]) nxa6
    have cxa6 := cxa5.trans sxa6
    have sxa7 := same_new (o := .tup [V.int 1, .bl false]) nxa7
    have cxa7 := cxa6.trans sxa7
    have sxL := same_new (o := .lst [V.ref xa0, V.ref xa1, V.ref xa2, V.ref xa3, V.ref xa4, V.ref xa5, V.ref xa6, V.ref xa7]) nxL
    have cxL := cxa7.trans sxL
    refine ⟨M1, xL, _, _, rfl, rfl, cxL _ _ hM1, upd_same, (by rw [lX1]; show 21 ≤ sizeLine; decide), fun xM nxM => ?_⟩
    have sxM := same_new (o := .lst (XS1 ++ [V.ref xa0, V.ref xa1, V.ref xa2, V.ref xa3, V.ref xa4, V.ref xa5, V.ref xa6, V.ref xa7])) nxM
    have cxM := cxL.trans sxM
    have fxa0 := (sxM _ _ (sxL _ _ (sxa7 _ _ (sxa6 _ _ (sxa5 _ _ (sxa4 _ _ (sxa3 _ _ (sxa2 _ _ (sxa1 _ _ (upd_same (a := xa0) (o := .tup [V.int 1, V.int 0])))))))))))
    have fxa1 := (sxM _ _ (sxL _ _ (sxa7 _ _ (sxa6 _ _ (sxa5 _ _ (sxa4 _ _ (sxa3 _ _ (sxa2 _ _ (upd_same (a := xa1) (o := .tup [V.int 0, V.int 1]))))))))))
    have fxa2 := (sxM _ _ (sxL _ _ (sxa7 _ _ (sxa6 _ _ (sxa5 _ _ (sxa4 _ _ (sxa3 _ _ (upd_same (a := xa2) (o := .tup [V.int 2, V.int 3, V.int 0, V.int 1])))))))))
    have fxa3 := (sxM _ _ (sxL _ _ (sxa7 _ _ (sxa6 _ _ (sxa5 _ _ (sxa4 _ _ (upd_same (a := xa3) (o := .tup [V.int 3, V.int 2, V.int 1, V.int 0]))))))))
    have fxa4 := (sxM _ _ (sxL _ _ (sxa7 _ _ (sxa6 _ _ (sxa5 _ _ (upd_same (a := xa4) (o := .tup [V.int 1, V.int 0, V.int 2])))))))
    have fxa5 := (sxM _ _ (sxL _ _ (sxa7 _ _ (sxa6 _ _ (upd_same (a := xa5) (o := .tup [V.int 1, V.int 0, V.int 3]))))))
    have fxa6 := (sxM _ _ (sxL _ _ (sxa7 _ _ (upd_same (a := xa6) (o := .tup [V.bl true, .bl false])))))
    have fxa7 := (sxM _ _ (sxL _ _ (upd_same (a := xa7) (o := .tup [V.int 1, .bl false]))))
    have hxM := upd_same (H := (upd (upd (upd (upd (upd (upd (upd (upd (upd G11 xa0 (.tup [V.int 1, V.int 0])) xa1 (.tup [V.int 0, V.int 1])) xa2 (.tup [V.int 2, V.int 3, V.int 0, V.int 1])) xa3 (.tup [V.int 3, V.int 2, V.int 1, V.int 0])) xa4 (.tup [V.int 1, V.int 0, V.int 2])) xa5 (.tup [V.int 1, V.int 0, V.int 3])) xa6 (.tup [V.bl true, .bl false])) xa7 (.tup [V.int 1, .bl false])) xL (.lst [V.ref xa0, V.ref xa1, V.ref xa2, V.ref xa3, V.ref xa4, V.ref xa5, V.ref xa6, V.ref xa7]))) (a := xM) (o := .lst (XS1 ++ [V.ref xa0, V.ref xa1, V.ref xa2, V.ref xa3, V.ref xa4, V.ref xa5, V.ref xa6, V.ref xa7]))
    have hh12 := cxM _ _ hh11
    have hpd12 := cxM _ _ hpd11
    have hB12 := hB11.same cxM
    have ap12 := ap11.trans (ap_same (b := b) cxM)
    have dy12 := same_dps (ap_same (b := b) cxM) dy11
    have A2 := fun x hx => mat_ap (A1 x hx) (ap_same (b := b) cxM)
    have nxMb : xM ≠ b := box_ne (hB11.same cxL) nxM
    generalize (upd (upd (upd (upd (upd (upd (upd (upd (upd (upd G11 xa0 (.tup [V.int 1, V.int 0])) xa1 (.tup [V.int 0, V.int 1])) xa2 (.tup [V.int 2, V.int 3, V.int 0, V.int 1])) xa3 (.tup [V.int 3, V.int 2, V.int 1, V.int 0])) xa4 (.tup [V.int 1, V.int 0, V.int 2])) xa5 (.tup [V.int 1, V.int 0, V.int 3])) xa6 (.tup [V.bl true, .bl false])) xa7 (.tup [V.int 1, .bl false])) xL (.lst [V.ref xa0, V.ref xa1, V.ref xa2, V.ref xa3, V.ref xa4, V.ref xa5, V.ref xa6, V.ref xa7])) xM (.lst (XS1 ++ [V.ref xa0, V.ref xa1, V.ref xa2, V.ref xa3, V.ref xa4, V.ref xa5, V.ref xa6, V.ref xa7]))) = G12 at hxM hh12 hpd12 hB12 ap12 dy12 A2 fxa0 fxa1 fxa2 fxa3 fxa4 fxa5 fxa6 fxa7
    obtain ⟨zs12, hb12⟩ : ∃ zs, G12 b = some (.lst zs) := by
      obtain ⟨x', y', z', e', _⟩ := hB12
      exact ⟨_, e'⟩
    replace A2 : ∀ x ∈ (XS1 ++ [V.ref xa0, V.ref xa1, V.ref xa2, V.ref xa3, V.ref xa4, V.ref xa5, V.ref xa6, V.ref xa7]), MatI K b G12 x := by
      intro x hx
      rcases List.mem_append.mp hx with hx | hx
      · exact A2 x hx
      simp only [List.mem_cons, List.mem_nil_iff, or_false] at hx
      rcases hx with rfl | rfl | rfl | rfl | rfl | rfl | rfl | rfl
      · exact mat_tup (sqT_hid (SqT.of fxa0) hb12) (smv_cons (smv_i (by decide)) (smv_cons (smv_i (by decide)) smv_nil)) (by decide)
      · exact mat_tup (sqT_hid (SqT.of fxa1) hb12) (smv_cons (smv_i (by decide)) (smv_cons (smv_i (by decide)) smv_nil)) (by decide)
      · exact mat_tup (sqT_hid (SqT.of fxa2) hb12) (smv_cons (smv_i (by decide)) (smv_cons (smv_i (by decide)) (smv_cons (smv_i (by decide)) (smv_cons (smv_i (by decide)) smv_nil)))) (by decide)
      · exact mat_tup (sqT_hid (SqT.of fxa3) hb12) (smv_cons (smv_i (by decide)) (smv_cons (smv_i (by decide)) (smv_cons (smv_i (by decide)) (smv_cons (smv_i (by decide)) smv_nil)))) (by decide)
      · exact mat_tup (sqT_hid (SqT.of fxa4) hb12) (smv_cons (smv_i (by decide)) (smv_cons (smv_i (by decide)) (smv_cons (smv_i (by decide)) smv_nil))) (by decide)
      · exact mat_tup (sqT_hid (SqT.of fxa5) hb12) (smv_cons (smv_i (by decide)) (smv_cons (smv_i (by decide)) (smv_cons (smv_i (by decide)) smv_nil))) (by decide)
      · exact mat_tup (sqT_hid (SqT.of fxa6) hb12) (smv_cons (smv_bl _) (smv_cons (smv_bl _) smv_nil)) (by decide)
      · exact mat_tup (sqT_hid (SqT.of fxa7) hb12) (smv_cons (smv_i (by decide)) (smv_cons (smv_bl _) smv_nil)) (by decide)
    generalize hX2 : (XS1 ++ [V.ref xa0, V.ref xa1, V.ref xa2, V.ref xa3, V.ref xa4, V.ref xa5, V.ref xa6, V.ref xa7]) = XS2 at hxM A2
    have lX2 : XS2.length = 21 := by rw [← hX2, List.length_append, lX1]; rfl
    obtain ⟨M2, eM2⟩ : ∃ M, M = xM := ⟨_, rfl⟩
    rw [← eM2] at hxM nxMb ⊢
    have hM2 := hxM
    have nM2b := nxMb
    refine ⟨_, rfl, (by show 4 ≤ sizeLine; decide), fun ya0 nya0 => ⟨(by show 1 ≤ sizeLine; decide), fun ya1x0 nya1x0 => ⟨(by show 1 ≤ sizeLine; decide), fun ya1x1 nya1x1 => ⟨(by show 2 ≤ sizeLine; decide), fun ya1 nya1 => ⟨(by show 2 ≤ sizeLine; decide), fun ya2 nya2 => ⟨(by show 2 ≤ sizeLine; decide), fun ya3 nya3 => ⟨1, rfl, (by show 2 ≤ sizeLine; decide), fun ya4 nya4 => ⟨2, rfl, (by show 2 ≤ sizeLine; decide), fun ya5 nya5 => ⟨10, 30, rfl, rfl, ⟨by decide, by decide, by decide⟩, (by show 2 ≤ sizeLine; decide), fun ya6 nya6 => ⟨(by show 7 ≤ sizeLine; decide), fun yL nyL => ?_⟩⟩⟩⟩⟩⟩⟩⟩⟩⟩
    have sya0 := same_new (o := .tup [V.int 1, V.int 2, V.int 0, V.int 3]) nya0
    have cya0 := sya0
    have sya1x0 := same_new (o := .tup [V.int 1]) nya1x0
    have cya1x0 := cya0.trans sya1x0
    have sya1x1 := same_new (o := .tup [V.int 0]) nya1x1
    have cya1x1 := cya1x0.trans sya1x1
    have sya1 := same_new (o := .tup [.ref ya1x0, .ref ya1x1]) nya1
    have cya1 := cya1x1.trans sya1
    have sya2 := same_new (o := .tup [V.str "1", .str "0"]) nya2
    have cya2 := cya1.trans sya2
    have sya3 := same_new (o := .tup [V.non, V.int 0]) nya3
    have cya3 := cya2.trans sya3
    have sya4 := same_new (o := .tup [V.int (-1), V.int 0]) nya4
    have cya4 := cya3.trans sya4
    have sya5 := same_new (o := .tup [V.int 1, V.int (-2)]) nya5
    have cya5 := cya4.trans sya5
    have sya6 := same_new (o := .tup [V.int (10 ^ (30 : Int).toNat), V.int 0]) nya6
    have cya6 := cya5.trans sya6
    have syL := same_new (o := .lst [V.ref ya0, V.ref ya1, V.ref ya2, V.ref ya3, V.ref ya4, V.ref ya5, V.ref ya6]) nyL
    have cyL := cya6.trans syL
    refine ⟨M2, yL, _, _, rfl, rfl, cyL _ _ hM2, upd_same, (by rw [lX2]; show 28 ≤ sizeLine; decide), fun yM nyM => ?_⟩
    have syM := same_new (o := .lst (XS2 ++ [V.ref ya0, V.ref ya1, V.ref ya2, V.ref ya3, V.ref ya4, V.ref ya5, V.ref ya6])) nyM
    have cyM := cyL.trans syM
    have fya0 := (syM _ _ (syL _ _ (sya6 _ _ (sya5 _ _ (sya4 _ _ (sya3 _ _ (sya2 _ _ (sya1 _ _ (sya1x1 _ _ (sya1x0 _ _ (upd_same (a := ya0) (o := .tup [V.int 1, V.int 2, V.int 0, V.int 3]))))))))))))
    have fya1x0 := (syM _ _ (syL _ _ (sya6 _ _ (sya5 _ _ (sya4 _ _ (sya3 _ _ (sya2 _ _ (sya1 _ _ (sya1x1 _ _ (upd_same (a := ya1x0) (o := .tup [V.int 1])))))))))))
    have fya1x1 := (syM _ _ (syL _ _ (sya6 _ _ (sya5 _ _ (sya4 _ _ (sya3 _ _ (sya2 _ _ (sya1 _ _ (upd_same (a := ya1x1) (o := .tup [V.int 0]))))))))))
    have fya1 := (syM _ _ (syL _ _ (sya6 _ _ (sya5 _ _ (sya4 _ _ (sya3 _ _ (sya2 _ _ (upd_same (a := ya1) (o := .tup [.ref ya1x0, .ref ya1x1])))))))))
    have fya2 := (syM _ _ (syL _ _ (sya6 _ _ (sya5 _ _ (sya4 _ _ (sya3 _ _ (upd_same (a := ya2) (o := .tup [V.str "1", .str "0"]))))))))
    have fya3 := (syM _ _ (syL _ _ (sya6 _ _ (sya5 _ _ (sya4 _ _ (upd_same (a := ya3) (o := .tup [V.non, V.int 0])))))))
    have fya4 := (syM _ _ (syL _ _ (sya6 _ _ (sya5 _ _ (upd_same (a := ya4) (o := .tup [V.int (-1), V.int 0]))))))
    have fya5 := (syM _ _ (syL _ _ (sya6 _ _ (upd_same (a := ya5) (o := .tup [V.int 1, V.int (-2)])))))
    have fya6 := (syM _ _ (syL _ _ (upd_same (a := ya6) (o := .tup [V.int (10 ^ (30 : Int).toNat), V.int 0]))))
    have hyM := upd_same (H := (upd (upd (upd (upd (upd (upd (upd (upd (upd (upd G12 ya0 (.tup [V.int 1, V.int 2, V.int 0, V.int 3])) ya1x0 (.tup [V.int 1])) ya1x1 (.tup [V.int 0])) ya1 (.tup [.ref ya1x0, .ref ya1x1])) ya2 (.tup [V.str "1", .str "0"])) ya3 (.tup [V.non, V.int 0])) ya4 (.tup [V.int (-1), V.int 0])) ya5 (.tup [V.int 1, V.int (-2)])) ya6 (.tup [V.int (10 ^ (30 : Int).toNat), V.int 0])) yL (.lst [V.ref ya0, V.ref ya1, V.ref ya2, V.ref ya3, V.ref ya4, V.ref ya5, V.ref ya6]))) (a := yM) (o := .lst (XS2 ++ [V.ref ya0, V.ref ya1, V.ref ya2, V.ref ya3, V.ref ya4, V.ref ya5, V.ref ya6]))
    have hh13 := cyM _ _ hh12
    have hpd13 := cyM _ _ hpd12
    have hB13 := hB12.same cyM
    have ap13 := ap12.trans (ap_same (b := b) cyM)
    have dy13 := same_dps (ap_same (b := b) cyM) dy12
    have A3 := fun x hx => mat_ap (A2 x hx) (ap_same (b := b) cyM)
    have nyMb : yM ≠ b := box_ne (hB12.same cyL) nyM
    generalize (upd (upd (upd (upd (upd (upd (upd (upd (upd (upd (upd G12 ya0 (.tup [V.int 1, V.int 2, V.int 0, V.int 3])) ya1x0 (.tup [V.int 1])) ya1x1 (.tup [V.int 0])) ya1 (.tup [.ref ya1x0, .ref ya1x1])) ya2 (.tup [V.str "1", .str "0"])) ya3 (.tup [V.non, V.int 0])) ya4 (.tup [V.int (-1), V.int 0])) ya5 (.tup [V.int 1, V.int (-2)])) ya6 (.tup [V.int (10 ^ (30 : Int).toNat), V.int 0])) yL (.lst [V.ref ya0, V.ref ya1, V.ref ya2, V.ref ya3, V.ref ya4, V.ref ya5, V.ref ya6])) yM (.lst (XS2 ++ [V.ref ya0, V.ref ya1, V.ref ya2, V.ref ya3, V.ref ya4, V.ref ya5, V.ref ya6]))) = G13 at hyM hh13 hpd13 hB13 ap13 dy13 A3 fya0 fya1 fya1x0 fya1x1 fya2 fya3 fya4 fya5 fya6
    obtain ⟨zs13, hb13⟩ : ∃ zs, G13 b = some (.lst zs) := by
      obtain ⟨x', y', z', e', _⟩ := hB13
      exact ⟨_, e'⟩
    replace A3 : ∀ x ∈ (XS2 ++ [V.ref ya0, V.ref ya1, V.ref ya2, V.ref ya3, V.ref ya4, V.ref ya5, V.ref ya6]), MatI K b G13 x := by
      intro x hx
      rcases List.mem_append.mp hx with hx | hx
      · exact A3 x hx
      simp only [List.mem_cons, List.mem_nil_iff, or_false] at hx
      rcases hx with rfl | rfl | rfl | rfl | rfl | rfl | rfl
      · exact mat_tup (sqT_hid (SqT.of fya0) hb13) (smv_cons (smv_i (by decide)) (smv_cons (smv_i (by decide)) (smv_cons (smv_i (by decide)) (smv_cons (smv_i (by decide)) smv_nil)))) (by decide)
      · exact mat_nest (sqT_hid (SqT.of fya1) hb13) (sqT_hid (SqT.of fya1x0) hb13) (sqT_hid (SqT.of fya1x1) hb13) (by decide) (by decide)
      · exact mat_tup (sqT_hid (SqT.of fya2) hb13) (smv_cons (smv_str (s := "1") (by decide)) (smv_cons (smv_str (s := "0") (by decide)) smv_nil)) (by decide)
      · exact mat_tup (sqT_hid (SqT.of fya3) hb13) (smv_cons smv_non (smv_cons (smv_i (by decide)) smv_nil)) (by decide)
      · exact mat_tup (sqT_hid (SqT.of fya4) hb13) (smv_cons (smv_i (by decide)) (smv_cons (smv_i (by decide)) smv_nil)) (by decide)
      · exact mat_tup (sqT_hid (SqT.of fya5) hb13) (smv_cons (smv_i (by decide)) (smv_cons (smv_i (by decide)) smv_nil)) (by decide)
      · exact mat_tup (sqT_hid (SqT.of fya6) hb13) (smv_cons (smv_int (by decide)) (smv_cons (smv_i (by decide)) smv_nil)) (by decide)
    generalize hX3 : (XS2 ++ [V.ref ya0, V.ref ya1, V.ref ya2, V.ref ya3, V.ref ya4, V.ref ya5, V.ref ya6]) = XS3 at hyM A3
    have lX3 : XS3.length = 28 := by rw [← hX3, List.length_append, lX2]; rfl
    obtain ⟨M3, eM3⟩ : ∃ M, M = yM := ⟨_, rfl⟩
    rw [← eM3] at hyM nyMb ⊢
    have hM3 := hyM
    have nM3b := nyMb
    refine ⟨_, rfl, _, rfl, pd, _, rfl, .inl ⟨SqL.of hpd13, fun za nza => ⟨(by show 1 ≤ sizeLine; decide), fun zL nzL => ?_⟩⟩⟩
    have sza := same_new (o := .tup ys) nza
    have szL := same_new (o := .lst [V.ref za]) nzL
    have czL := sza.trans szL
    refine ⟨M3, zL, _, _, rfl, rfl, czL _ _ hM3, upd_same, (by rw [lX3]; show 29 ≤ sizeLine; decide), fun zM nzM => ?_⟩
    have szM := same_new (o := .lst (XS3 ++ [V.ref za])) nzM
    have czM := czL.trans szM
    have fza := szM _ _ (szL _ _ (upd_same (H := G13) (a := za) (o := .tup ys)))
    have hzM := upd_same (H := (upd (upd G13 za (.tup ys)) zL (.lst [V.ref za]))) (a := zM) (o := .lst (XS3 ++ [V.ref za]))
    have hh14 := czM _ _ hh13
    have hpd14 := czM _ _ hpd13
    have hB14 := hB13.same czM
    have ap14 := ap13.trans (ap_same (b := b) czM)
    have dy14 := same_dps (ap_same (b := b) czM) dy13
    have A4 := fun x hx => mat_ap (A3 x hx) (ap_same (b := b) czM)
    have nzMb : zM ≠ b := box_ne (hB13.same czL) nzM
    generalize (upd (upd (upd G13 za (.tup ys)) zL (.lst [V.ref za])) zM (.lst (XS3 ++ [V.ref za]))) = G14 at hzM hh14 hpd14 hB14 ap14 dy14 A4 fza
    obtain ⟨zs14, hb14⟩ : ∃ zs, G14 b = some (.lst zs) := by
      obtain ⟨x', y', z', e', _⟩ := hB14
      exact ⟨_, e'⟩
    replace A4 : ∀ x ∈ (XS3 ++ [V.ref za]), MatI K b G14 x := by
      intro x hx
      rcases List.mem_append.mp hx with hx | hx
      · exact A4 x hx
      simp only [List.mem_cons, List.mem_nil_iff, or_false] at hx
      subst hx
      refine mat_pairs (sqT_hid (SqT.of fza) hb14) dy14 (Nat.le_trans (armsN_len _ _) c24) (fun p hp => ?_)
      unfold armsN at hp
      obtain ⟨i, hi, rfl⟩ := List.mem_map.mp hp
      have z1 := List.mem_range.mp (List.mem_filter.mp hi).1
      have z2 := hm i
      exact ⟨by show i ≤ 1000; omega, by show m i ≤ 1000; omega⟩
    generalize hX4 : (XS3 ++ [V.ref za]) = XS4 at hzM A4
    have lX4 : XS4.length = 29 := by rw [← hX4, List.length_append, lX3]; rfl
    obtain ⟨M4, eM4⟩ : ∃ M, M = zM := ⟨_, rfl⟩
    rw [← eM4] at hzM nzMb ⊢
    have hM4 := hzM
    have nM4b := nzMb
    refine ⟨_, rfl, (by show 4 ≤ sizeLine; decide), fun va0 nva0 => ⟨(by show 2 ≤ sizeLine; decide), fun va1 nva1 => ⟨(by show 2 ≤ sizeLine; decide), fun vL nvL => ?_⟩⟩⟩
    have sva0 := same_new (o := .tup [V.int 3, V.int 0, V.int 1, V.int 2]) nva0
    have cva0 := sva0
    have sva1 := same_new (o := .tup [V.int 1, V.int 1]) nva1
    have cva1 := cva0.trans sva1
    have svL := same_new (o := .lst [V.ref va0, V.ref va1]) nvL
    have cvL := cva1.trans svL
    refine ⟨M4, vL, _, _, rfl, rfl, cvL _ _ hM4, upd_same, (by rw [lX4]; show 31 ≤ sizeLine; decide), fun vM nvM => ?_⟩
    have svM := same_new (o := .lst (XS4 ++ [V.ref va0, V.ref va1])) nvM
    have cvM := cvL.trans svM
    have fva0 := (svM _ _ (svL _ _ (sva1 _ _ (upd_same (a := va0) (o := .tup [V.int 3, V.int 0, V.int 1, V.int 2])))))
    have fva1 := (svM _ _ (svL _ _ (upd_same (a := va1) (o := .tup [V.int 1, V.int 1]))))
    have hvM := upd_same (H := (upd (upd (upd G14 va0 (.tup [V.int 3, V.int 0, V.int 1, V.int 2])) va1 (.tup [V.int 1, V.int 1])) vL (.lst [V.ref va0, V.ref va1]))) (a := vM) (o := .lst (XS4 ++ [V.ref va0, V.ref va1]))
    have hh15 := cvM _ _ hh14
    have hpd15 := cvM _ _ hpd14
    have hB15 := hB14.same cvM
    have ap15 := ap14.trans (ap_same (b := b) cvM)
    have dy15 := same_dps (ap_same (b := b) cvM) dy14
    have A5 := fun x hx => mat_ap (A4 x hx) (ap_same (b := b) cvM)
    have nvMb : vM ≠ b := box_ne (hB14.same cvL) nvM
    generalize (upd (upd (upd (upd G14 va0 (.tup [V.int 3, V.int 0, V.int 1, V.int 2])) va1 (.tup [V.int 1, V.int 1])) vL (.lst [V.ref va0, V.ref va1])) vM (.lst (XS4 ++ [V.ref va0, V.ref va1]))) = G15 at hvM hh15 hpd15 hB15 ap15 dy15 A5 fva0 fva1
    obtain ⟨zs15, hb15⟩ : ∃ zs, G15 b = some (.lst zs) := by
      obtain ⟨x', y', z', e', _⟩ := hB15
      exact ⟨_, e'⟩
    replace A5 : ∀ x ∈ (XS4 ++ [V.ref va0, V.ref va1]), MatI K b G15 x := by
      intro x hx
      rcases List.mem_append.mp hx with hx | hx
      · exact A5 x hx
      simp only [List.mem_cons, List.mem_nil_iff, or_false] at hx
      rcases hx with rfl | rfl
      · exact mat_tup (sqT_hid (SqT.of fva0) hb15) (smv_cons (smv_i (by decide)) (smv_cons (smv_i (by decide)) (smv_cons (smv_i (by decide)) (smv_cons (smv_i (by decide)) smv_nil)))) (by decide)
      · exact mat_tup (sqT_hid (SqT.of fva1) hb15) (smv_cons (smv_i (by decide)) (smv_cons (smv_i (by decide)) smv_nil)) (by decide)
    generalize hX5 : (XS4 ++ [V.ref va0, V.ref va1]) = XS5 at hvM A5
    have lX5 : XS5.length = 31 := by rw [← hX5, List.length_append, lX4]; rfl
    obtain ⟨M5, eM5⟩ : ∃ M, M = vM := ⟨_, rfl⟩
    rw [← eM5] at hvM nvMb ⊢
    have hM5 := hvM
    have nM5b := nvMb
    refine ⟨_, rfl, 40, rfl, RgOk.of_le (by decide) (by decide) (by decide) (by decide), fun wa nwa => ⟨wa, _, rfl, SqT.of upd_same, fun wb nwb => ⟨39, rfl, RgOk.of_le (by decide) (by decide) (by decide) (by decide), fun wc nwc => ⟨wc, _, rfl, SqT.of upd_same, fun wd nwd => ⟨(by show 4 ≤ sizeLine; decide), fun we nwe => ⟨4, 40, rfl, rfl, RgOk.of_le (by decide) (by decide) (by decide) (by decide), fun wf nwf => ⟨wf, _, rfl, SqT.of upd_same, fun wg nwg => ?_⟩⟩⟩⟩⟩⟩⟩
    have swa := same_new (o := .tup (rgV 0 40)) nwa
    have swb := same_new (o := .tup (rgV 0 40).reverse) nwb
    have swc := same_new (o := .tup (rgV 0 39)) nwc
    have swd := same_new (o := .tup (rgV 0 39).reverse) nwd
    have swe := same_new (o := .tup [V.int 3, .int 2, .int 1, .int 0]) nwe
    have swf := same_new (o := .tup (rgV 4 40)) nwf
    have swg := same_new (o := .tup (rgV 4 40).reverse) nwg
    have cwg := swa.trans (swb.trans (swc.trans (swd.trans (swe.trans (swf.trans swg)))))
    refine ⟨we, wg, _, _, rfl, rfl, SqT.of (swg _ _ (swf _ _ upd_same)), SqT.of upd_same, ?_, fun wp Jw uw hwp => ⟨(by show 3 ≤ sizeLine; decide), fun wL nwL => ?_⟩⟩
    · rw [List.length_reverse, rgV_length]; show 40 ≤ sizeLine; decide
    have swL := same_new (o := .lst [V.ref wb, .ref wd, .ref wp]) nwL
    have cwL := (cwg.trans uw).trans swL
    refine ⟨M5, wL, _, _, rfl, rfl, cwL _ _ hM5, upd_same, (by rw [lX5]; show 34 ≤ sizeLine; decide), fun wM nwM => ?_⟩
    have swM := same_new (o := .lst (XS5 ++ [V.ref wb, .ref wd, .ref wp])) nwM
    have cwM := cwL.trans swM
    have vw := uw.trans swL
    have fwb := vw _ _ (swg _ _ (swf _ _ (swe _ _ (swd _ _ (swc _ _ (upd_same (a := wb) (o := .tup (rgV 0 40).reverse)))))))
    have fwd := vw _ _ (swg _ _ (swf _ _ (swe _ _ (upd_same (a := wd) (o := .tup (rgV 0 39).reverse)))))
    have fwp := same_tup swL hwp
    have hhp := cwL _ _ hh15
    have hBp := hB15.same cwL
    have app := ap15.trans (ap_same (b := b) cwL)
    have A5p := fun x hx => mat_ap (A5 x hx) (ap_same (b := b) cwL)
    have nM6b : wM ≠ b := box_ne hBp nwM
    clear swM cwM
    generalize (upd Jw wL (.lst [V.ref wb, .ref wd, .ref wp])) = Gp at fwb fwd fwp hhp hBp app A5p nwM ⊢
    obtain ⟨zsp, hbp⟩ : ∃ zs, Gp b = some (.lst zs) := by
      obtain ⟨x', y', z', e', _⟩ := hBp
      exact ⟨_, e'⟩
    have A6p : ∀ x ∈ (XS5 ++ [V.ref wb, .ref wd, .ref wp]), MatI K b Gp x := by
      intro x hx
      rcases List.mem_append.mp hx with hx | hx
      · exact A5p x hx
      simp only [List.mem_cons, List.mem_nil_iff, or_false] at hx
      rcases hx with rfl | rfl | rfl
      · exact mat_tup (sqT_hid (SqT.of fwb) hbp) (fun v hv => smv_rg (by decide) (by decide) v (List.mem_reverse.mp hv)) (by rw [List.length_reverse, rgV_length]; decide)
      · exact mat_tup (sqT_hid (SqT.of fwd) hbp) (fun v hv => smv_rg (by decide) (by decide) v (List.mem_reverse.mp hv)) (by rw [List.length_reverse, rgV_length]; decide)
      · refine mat_tup (sqT_hid fwp hbp) (fun v hv => ?_) (by rw [List.length_append, List.length_reverse, rgV_length]; decide)
        rcases List.mem_append.mp hv with z | z
        · exact smv_cons (smv_i (by decide)) (smv_cons (smv_i (by decide)) (smv_cons (smv_i (by decide)) (smv_cons (smv_i (by decide)) smv_nil))) v z
        · exact smv_rg (by decide) (by decide) v (List.mem_reverse.mp z)
    generalize hX6 : (XS5 ++ [V.ref wb, .ref wd, .ref wp]) = XS6 at A6p ⊢
    have lX6 : XS6.length = 34 := by rw [← hX6, List.length_append, lX5]; rfl
    have swM := same_new (o := .lst XS6) nwM
    have hh16 := swM _ _ hhp
    have hB16 := hBp.same swM
    have ap16 := app.trans (ap_same (b := b) swM)
    have A6 : ∀ x ∈ XS6, ∃ d, Dp K (hid (hid (upd Gp wM (.lst XS6)) b) wM) x d ∧ Fine d := fun x hx => by
      obtain ⟨d, h1, h2⟩ := A6p x hx
      exact ⟨d, same_dp (hid_drop nwM) h1, h2⟩
    have hM6 : (upd Gp wM (.lst XS6)) wM = some (.lst XS6) := upd_same
    generalize upd Gp wM (.lst XS6) = G16 at hh16 hB16 ap16 A6 hM6 ⊢
    clear A5p A6p fwb fwd fwp hwp
    -- for turn in range(12): matters.append(bent(box, hall))
    refine ⟨12, rfl, by decide, by decide, for_it (walk_range (lo := 0) (n := 12)) (fun i σ G => (∃ y8, σ = [some (.ref b), some (.ref h), some (.int ((2 * c : Nat) : Int)), some (.ref pd), some (.ref pf), some (.ref px), some (.ref pw), some (.ref wM), y8, none, none, none, none, none, none, none]) ∧ (∃ xs, G wM = some (.lst xs) ∧ xs.length = 34 + i ∧ ∀ x ∈ xs, ∃ d, Dp K (hid (hid G b) wM) x d ∧ Fine d) ∧ G h = some (.tup (rowV (2 * c) m)) ∧ Ap b H G ∧ BoxAt G b (n + 151 - 4 * i) ∧ i ≤ 12)
      ⟨⟨none, rfl⟩, ⟨XS6, hM6, by omega, A6⟩, hh16, ap16, hB16, by omega⟩ (fun _ _ _ _ _ => trivial) (fun i x σ G G' hi p y => ?_) (fun σ G p => ?_)⟩
    · obtain ⟨⟨y8, rfl⟩, ⟨xs, hx, lx, hd⟩, hhG, apG, hBG, hi12⟩ := p
      obtain ⟨rfl, rfl⟩ := y
      refine ⟨_, rfl, .inl ⟨rfl, _, SqL.of hx⟩, _, rfl, _, rfl, b, h, 2 * c, m, n + 151 - 4 * (i + 1), rfl, SqT.of (hid_lst hhG hne), c24, hm, hBG.mono (by omega), fun x d J dx fx apJ hBJ => ?_⟩
      have hxJ := ap_get apJ hx nM6b
      refine ⟨wM, _, _, rfl, rfl, hxJ, small1000 (by omega), ?_⟩
      have nwMH : H wM = none := by
        cases e : H wM with
        | none => rfl
        | some o => rw [ap_get app e nM6b] at nwM; cases nwM
      refine ⟨⟨_, rfl⟩, ⟨_, upd_same, by rw [List.length_append, lx]; rfl, fun x' hx' => ?_⟩, tup_up (tup_ap hhG hBG apJ) hxJ, ap_up (apG.trans apJ) nwMH, box_up hBJ nM6b, by omega⟩
      rcases List.mem_append.mp hx' with z | z
      · obtain ⟨d', h1, h2⟩ := hd x' z
        refine ⟨d', same_dp (fun a o e => ?_) h1, h2⟩
        have nM : a ≠ wM := fun y => by rw [y, hid_at] at e; cases e
        rw [hid_ne nM] at e
        have e2 := apJ a o e
        have nb : a ≠ b := fun y => by rw [y, hid_at] at e; cases e
        rw [hid_ne nM, hid_ne nb, upd_ne nM]
        rw [hid_ne nb] at e2; exact e2
      · have z' : x' = x := by simpa using z
        subst z'
        refine ⟨d, same_dp (fun a o e => ?_) dx, fx⟩
        obtain ⟨e1, e2⟩ := nw_get e
        have nM : a ≠ wM := fun y => by rw [y, hx] at e1; cases e1
        have nb : a ≠ b := fun y => by
          obtain ⟨o', ho'⟩ := hBG.some
          rw [y, ho'] at e1; cases e1
        rw [hid_ne nM, hid_ne nb, upd_ne nM]; exact e2
    · obtain ⟨⟨y8, rfl⟩, ⟨xs, hx, lx, hd⟩, hhG, apG, hBG, _⟩ := p
      -- for matter in matters
      refine ⟨_, rfl, wM, rfl, ⟨_, SqL.of hx⟩, for_it (walk_list (K := K) (a := wM) (xs := xs)) (fun i σ J => (∃ y3 y9 y10, σ = [some (.ref b), some (.ref h), some (.int ((2 * c : Nat) : Int)), y3, some (.ref pf), some (.ref px), some (.ref pw), some (.ref wM), y8, y9, y10, none, none, none, none, none]) ∧ Same G J)
        ⟨⟨_, _, _, rfl⟩, Same.refl _⟩ (fun i σ J _ p => p.2.seq (SqL.of hx)) (fun i x σ J J' hi p y => ?_) (fun σ J p => ?_)⟩
      · obtain ⟨⟨y3, y9, y10, rfl⟩, sm⟩ := p
        obtain ⟨rfl, ex⟩ := y
        obtain ⟨d, hdx, fd⟩ := hd x (List.mem_of_getElem? ex)
        have dG : Dp K G x d := same_dp ((hid_same (hid G b) wM).trans (hid_same G b)) hdx
        have dJ := same_dp sm dG
        have d60 : d.depth < 60 := by have := fd.sm.dp; omega
        have dln : d.shown.length ≤ sizeLine := Nat.le_trans fd.sm.ln (by rw [sizeLine_eq]; decide)
        refine ⟨_, rfl, x, d, rfl, dJ, fd.sm.sw, fd.sm.nd, d60, dln, _, rfl, x, d, rfl, dJ, fine_tup fd, fun b1 J1 sm1 hb1 => ⟨_, _, rfl, ?_⟩⟩
        refine ⟨_, rfl, x, d, rfl, same_dp sm1 dJ, fine_tup fd, fun b2 J2 sm2 hb2 => ?_⟩
        have sm12 := sm1.trans sm2
        refine ⟨_, rfl, rfl, x, d, rfl, same_dp sm12 dJ, fine_tup fd, fun b3 J3 sm3 hb3 => ?_⟩
        have sm13 := sm12.trans sm3
        obtain rfl : b2 = b1 := Bool.eq_iff_iff.mpr (hb2.trans hb1.symm)
        obtain rfl : b3 = b2 := Bool.eq_iff_iff.mpr (hb3.trans hb1.symm)
        refine ⟨(by show 2 ≤ sizeLine; decide), fun l1 nl1 => ⟨_, rfl, _, rfl, (by show 2 ≤ sizeLine; decide), fun l2 nl2 => ?_⟩⟩
        have sl1 := same_new (o := .lst [.bl b3, .bl b3]) nl1
        have sl2 := same_new (o := .lst [.bl b3, .bl b3]) nl2
        refine ⟨_, _, .list [.bool b3, .bool b3], rfl, .lst (SqL.of (sl2 _ _ upd_same)) (.cons (.bl _) (.cons (.bl _) .nil)), .lst (SqL.of upd_same) (.cons (.bl _) (.cons (.bl _) .nil)), (show 1 < 8 by decide), (show 3 ≤ 100000 by decide), fun J4 sm4 => ⟨_, rfl, iteF ?_⟩⟩
        have sm5 := sm13.trans (sl1.trans (sl2.trans sm4))
        refine ⟨_, rfl, x, d, rfl, same_dp sm5 dJ, fd.sm.sw, fd.sm.nd, d60, dln, _, rfl, rfl, _, rfl, ?_⟩
        rw [decide_eq_true rfl]
        exact iteF ⟨⟨_, _, _, rfl⟩, sm.trans sm5⟩
      · obtain ⟨⟨y3, y9, y10, rfl⟩, smJ⟩ := p
        have hhJ := smJ _ _ hhG
        have hBJ := hBG.same smJ
        have apJ := apG.trans (ap_same (b := b) smJ)
        -- for turn in range(6)
        refine ⟨6, rfl, by decide, by decide, for_it (walk_range (lo := 0) (n := 6)) (fun i σ J => (∃ y3 y8 y9 y10 y11 y12 y13 y14, σ = [some (.ref b), some (.ref h), some (.int ((2 * c : Nat) : Int)), y3, some (.ref pf), some (.ref px), some (.ref pw), some (.ref wM), y8, y9, y10, y11, y12, y13, y14, none]) ∧ J h = some (.tup (rowV (2 * c) m)) ∧ Ap b H J ∧ BoxAt J b (n + 103 - 8 * i) ∧ i ≤ 6)
          ⟨⟨_, _, _, _, _, _, _, _, rfl⟩, hhJ, apJ, hBJ, by omega⟩ (fun _ _ _ _ _ => trivial) (fun i x σ J J' hi p y => ?_) (fun σ J p => ?_)⟩
        · obtain ⟨⟨y3, y8, y9, y10, y11, y12, y13, y14, rfl⟩, hhJ, apJ, hBJ, hi6⟩ := p
          obtain ⟨rfl, rfl⟩ := y
          refine ⟨_, rfl, 8, rfl, RgOk.of_le (by decide) (by decide) (by decide) (by decide), fun pr npr => ?_⟩
          have e8 : rgV 0 8 = ((List.range 8).map fun i => ((i : Nat) : Int)).map V.int := rg_nat 8
          rw [e8]
          have smR := same_new (o := .lst (((List.range 8).map fun i => ((i : Nat) : Int)).map V.int)) npr
          have nprb : pr ≠ b := box_ne hBJ npr
          refine ⟨b, pr, _, n + 103 - 8 * (i + 1), rfl, SqL.of (hid_lst upd_same nprb), (by show 8 ≤ 1000; decide), (hBJ.same smR).mono (by show n + 103 - 8 * (i + 1) + 8 ≤ _; omega), fun ps ms J1 perm ap1 hB1 nps hps => ?_⟩
          have hhR : J1 h = some (.tup (rowV (2 * c) m)) := tup_ap (smR _ _ hhJ) (hBJ.same smR) ap1
          have apR := (apJ.trans (ap_same (b := b) smR)).trans ap1
          have nd : ms.Nodup := perm.nodup_iff.mpr (by decide)
          have l8 : ms.length = 8 := perm.length_eq
          match ms, l8 with
          | [x0, x1, x2, x3, x4, x5, x6, x7], _ =>
          have nds : x0 ≠ x1 ∧ x0 ≠ x2 ∧ x0 ≠ x3 ∧ x1 ≠ x2 ∧ x1 ≠ x3 ∧ x2 ≠ x3 := by
            simp only [List.nodup_cons, List.mem_cons, not_or] at nd
            exact ⟨nd.1.1, nd.1.2.1, nd.1.2.2.1, nd.2.1.1, nd.2.1.2.1, nd.2.2.1.1⟩
          obtain ⟨n01, n02, n03, n12, n13, n23⟩ := nds
          refine ⟨_, rfl, 2, rfl, ps, _, rfl, SqL.of hps, fun s1 ns1 => ⟨s1, _, rfl, .inl ⟨SqL.of upd_same, fun t1 nt1 => ?_⟩⟩⟩
          have c1 : cutV ([x0, x1, x2, x3, x4, x5, x6, x7].map V.int) none (some 2) = [.int x0, .int x1] := rfl
          have c2 : cutV ([x0, x1, x2, x3, x4, x5, x6, x7].map V.int) (some 2) (some 4) = [.int x2, .int x3] := rfl
          rw [c1] at nt1 ⊢
          have v1 := same_new (o := .lst [.int x0, .int x1]) ns1
          have v2 := v1.trans (same_new (o := .tup [.int x0, .int x1]) nt1)
          refine ⟨_, rfl, 2, rfl, 4, rfl, ps, _, rfl, SqL.of (v2 _ _ hps), fun s2 ns2 => ⟨s2, _, rfl, .inl ⟨SqL.of upd_same, fun t2 nt2 => ⟨_, _, rfl, ?_⟩⟩⟩⟩
          rw [c2] at nt2 ⊢
          have v3 := same_new (o := .lst [.int x2, .int x3]) ns2
          have v4 := same_new (o := .tup [.int x2, .int x3]) nt2
          have hT1 := v4 _ _ (v3 _ _ (upd_same (a := t1) (o := .tup [.int x0, .int x1])))
          have hT2 := upd_same (H := (upd (upd (upd J1 s1 (.lst [.int x0, .int x1])) t1 (.tup [.int x0, .int x1])) s2 (.lst [.int x2, .int x3]))) (a := t2) (o := .tup [.int x2, .int x3])
          have v5 := v2.trans (v3.trans v4)
          have hhT := v5 _ _ hhR
          have apT := apR.trans (ap_same (b := b) v5)
          have hBT := hB1.same v5
          generalize (upd (upd (upd (upd J1 s1 (.lst [.int x0, .int x1])) t1 (.tup [.int x0, .int x1])) s2 (.lst [.int x2, .int x3])) t2 (.tup [.int x2, .int x3])) = J2 at hT1 hT2 hhT apT hBT ⊢
          -- due = crossed(duo, its)
          refine ⟨_, rfl, _, rfl, t1, t2, x0, x1, x2, x3, rfl, SqT.of hT1, SqT.of hT2, ?_⟩
          -- told
          refine ⟨_, rfl, _, rfl, t1, t2, x0, x1, x2, x3, rfl, .inl (SqT.of hT1), .inl (SqT.of hT2), fun K1 u1 => ?_⟩
          refine ⟨_, rfl, _, rfl, t2, t1, x2, x3, x0, x1, rfl, .inl (SqT.of (u1 _ _ hT2)), .inl (SqT.of (u1 _ _ hT1)), fun K2 u2 => ?_⟩
          have u12 := u1.trans u2
          refine ⟨_, rfl, t1, _, rfl, SqT.of (u12 _ _ hT1), fun r1 nr1 => ⟨_, rfl, t2, _, rfl, .inr (SqT.of (same_new nr1 _ _ (u12 _ _ hT2))), fun l1 nl1 => ⟨r1, l1, x1, x0, x2, x3, rfl, .inl (SqT.of (same_new nl1 _ _ upd_same)), .inr (SqL.of upd_same), fun K3 u3 => ?_⟩⟩⟩
          have u13 := u12.trans ((same_new (o := .tup [.int x1, .int x0]) nr1).trans ((same_new (o := .lst [.int x2, .int x3]) nl1).trans u3))
          refine ⟨_, rfl, t2, _, rfl, SqT.of (u13 _ _ hT2), fun r2 nr2 => ⟨_, rfl, t1, _, rfl, .inr (SqT.of (same_new nr2 _ _ (u13 _ _ hT1))), fun l2 nl2 => ⟨rfl, l2, r2, x0, x1, x3, x2, rfl, .inr (SqL.of upd_same), .inl (SqT.of (same_new nl2 _ _ upd_same)), fun K4 u4 => ⟨(by show 4 ≤ sizeLine; decide), fun pt npt => ?_⟩⟩⟩⟩
          have u14 := u13.trans ((same_new (o := .tup [.int x3, .int x2]) nr2).trans ((same_new (o := .lst [.int x0, .int x1]) nl2).trans u4))
          have E2 : crI x2 x3 x0 x1 = crI x0 x1 x2 x3 := cr_sym n01 n23 n02 n03 n12 n13
          have E3 : crI x1 x0 x2 x3 = crI x0 x1 x2 x3 := cr_flip x0 x1 x2 x3
          have E4 : crI x0 x1 x3 x2 = crI x0 x1 x2 x3 := cr_flip2 x0 x1 x2 x3
          rw [E2, E3, E4]
          generalize crI x0 x1 x2 x3 = v
          refine ⟨_, rfl, _, rfl, (by show 1 ≤ sizeLine; decide), fun ld nld => ⟨ld, 4, _, rfl, rfl, upd_same, by decide, by decide, (by show 4 ≤ sizeLine; decide), fun l4 nl4 => ?_⟩⟩
          have w1 := same_new (o := .lst [.bl v, .bl v, .bl v, .bl v]) npt
          have w2 := same_new (o := .lst [.bl v]) nld
          have w3 := same_new (o := .lst (List.replicate (4 : Int).toNat [V.bl v]).flatten) nl4
          have four : DpAll K (upd (upd (upd K4 pt (.lst [.bl v, .bl v, .bl v, .bl v])) ld (.lst [.bl v])) l4 (.lst (List.replicate (4 : Int).toNat [V.bl v]).flatten)) [.bl v, .bl v, .bl v, .bl v] [.bool v, .bool v, .bool v, .bool v] := .cons (.bl _) (.cons (.bl _) (.cons (.bl _) (.cons (.bl _) .nil)))
          refine ⟨_, _, .list [.bool v, .bool v, .bool v, .bool v], rfl, .lst (SqL.of (w3 _ _ (w2 _ _ upd_same))) four, .lst (SqL.of upd_same) four, (show 1 < 8 by decide), (show 5 ≤ 100000 by decide), fun K5 u5 => ⟨_, rfl, iteF ?_⟩⟩
          have u15 := u14.trans (w1.trans (w2.trans (w3.trans u5)))
          exact ⟨⟨_, _, _, _, _, _, _, _, rfl⟩, u15 _ _ hhT, apT.trans (ap_same (b := b) u15), hBT.same u15, by omega⟩
        · obtain ⟨⟨y3, y8, y9, y10, y11, y12, y13, y14, rfl⟩, hhJ, apJ, hBJ, _⟩ := p
          have hBz : BoxAt J b n := hBJ.mono (by omega)
          -- told = [cross((-5, 10 ** 12), (0, 10 ** 13)), cross((-5, 10 ** 12), (0, 7)), cross((3, -3), (-4, -2))]
          refine ⟨5, rfl, 10, 12, rfl, rfl, ⟨by decide, by decide, by decide⟩, (by show 2 ≤ sizeLine; decide), fun a1 na1 => ⟨10, 13, rfl, rfl, ⟨by decide, by decide, by decide⟩, (by show 2 ≤ sizeLine; decide), fun a2 na2 => ⟨a1, a2, -5, _, 0, _, rfl, .inl (SqT.of (same_new na2 _ _ upd_same)), .inl (SqT.of upd_same), fun K1 u1 => ?_⟩⟩⟩
          have w1 := (same_new (o := .tup [.int (-5), .int (10 ^ (12 : Int).toNat)]) na1).trans ((same_new (o := .tup [.int 0, .int (10 ^ (13 : Int).toNat)]) na2).trans u1)
          refine ⟨5, rfl, 10, 12, rfl, rfl, ⟨by decide, by decide, by decide⟩, (by show 2 ≤ sizeLine; decide), fun a3 na3 => ⟨(by show 2 ≤ sizeLine; decide), fun a4 na4 => ⟨a3, a4, -5, _, 0, 7, rfl, .inl (SqT.of (same_new na4 _ _ upd_same)), .inl (SqT.of upd_same), fun K2 u2 => ?_⟩⟩⟩
          have w2 := (same_new (o := .tup [.int (-5), .int (10 ^ (12 : Int).toNat)]) na3).trans ((same_new (o := .tup [.int 0, .int 7]) na4).trans u2)
          refine ⟨3, rfl, (by show 2 ≤ sizeLine; decide), fun a5 na5 => ⟨4, rfl, 2, rfl, (by show 2 ≤ sizeLine; decide), fun a6 na6 => ⟨a5, a6, 3, -3, -4, -2, rfl, .inl (SqT.of (same_new na6 _ _ upd_same)), .inl (SqT.of upd_same), fun K3 u3 => ⟨(by show 3 ≤ sizeLine; decide), fun pt npt => ?_⟩⟩⟩⟩
          have w3 := (same_new (o := .tup [.int 3, .int (-3)]) na5).trans ((same_new (o := .tup [.int (-4), .int (-2)]) na6).trans u3)
          have E1 : crI (-5) (10 ^ (12 : Int).toNat) 0 (10 ^ (13 : Int).toNat) = true := by decide +kernel
          have E2 : crI (-5) (10 ^ (12 : Int).toNat) 0 7 = false := by decide +kernel
          have E3 : crI 3 (-3) (-4) (-2) = true := by decide +kernel
          rw [E1, E2, E3]
          have w4 := same_new (o := .lst [.bl true, .bl false, .bl true]) npt
          have w14 := w1.trans (w2.trans (w3.trans w4))
          have hpt := upd_same (H := K3) (a := pt) (o := .lst [.bl true, .bl false, .bl true])
          have hhZ := w14 _ _ hhJ
          have apZ := apJ.trans (ap_same (b := b) w14)
          have hBZ := hBz.same w14
          generalize upd K3 pt (.lst [.bl true, .bl false, .bl true]) = J2 at hpt hhZ apZ hBZ ⊢
          -- return same(told + [arms(hall)], [True, False, True, pairs(hall)])
          refine ⟨_, rfl, _, rfl, h, 2 * c, m, rfl, .inl (SqT.of hhZ), by omega, fun p ya J3 u3 np hp da => ⟨(by show 1 ≤ sizeLine; decide), fun l1 nl1 => ⟨pt, l1, _, _, rfl, rfl, same_new nl1 _ _ (u3 _ _ hpt), upd_same, (by show 4 ≤ sizeLine; decide), fun l2 nl2 => ?_⟩⟩⟩
          have x1 := same_new (o := .lst [V.ref p]) nl1
          have x2 := same_new (o := .lst ([V.bl true, .bl false, .bl true] ++ [.ref p])) nl2
          have x12 := x1.trans x2
          have ux := u3.trans x12
          refine ⟨_, rfl, h, 2 * c, m, rfl, SqT.of (ux _ _ hhZ), by omega, fun p' yp J4 u4 np' hp' dp => ⟨(by show 4 ≤ sizeLine; decide), fun l3 nl3 => ?_⟩⟩
          have x3 := same_new (o := .lst [V.bl true, .bl false, .bl true, .ref p']) nl3
          have u43 := u4.trans x3
          have xA := x12.trans u43
          have armNum : numL ((armsN m (2 * c)).map pairD) ≤ 100 := arms_num m (2 * c) c24
          refine ⟨_, _, .list [.bool true, .bool false, .bool true, .list ((armsN m (2 * c)).map pairD)], rfl, .lst (SqL.of (u43 _ _ upd_same)) (.cons (.bl _) (.cons (.bl _) (.cons (.bl _) (.cons (.lst (SqL.of (xA _ _ hp)) (same_dps xA da)) .nil)))),
            .lst (SqL.of upd_same) (.cons (.bl _) (.cons (.bl _) (.cons (.bl _) (.cons (.lst (SqL.of (x3 _ _ hp')) (same_dps x3 dp)) .nil)))), ?_, ?_, fun J5 u5 => ?_⟩
          · have z := arms_depth m (2 * c)
            have e : PyData.depth (.list [.list ((armsN m (2 * c)).map pairD), .list ((armsN m (2 * c)).map pairD)]) = PyData.depthAll ((armsN m (2 * c)).map pairD) + 2 := by
              show max (PyData.depthAll ((armsN m (2 * c)).map pairD) + 1) (max (PyData.depthAll ((armsN m (2 * c)).map pairD) + 1) 0) + 1 = _
              omega
            rw [e] at z
            show max 0 (max 0 (max 0 (max (PyData.depthAll ((armsN m (2 * c)).map pairD) + 1) 0))) + 1 < 8
            omega
          · show 1 + (1 + (1 + (numL ((armsN m (2 * c)).map pairD) + 1 + 0))) + 1 ≤ 100000
            omega
          · have uz := ux.trans (u43.trans u5)
            exact q J5 (apZ.trans (ap_same (b := b) uz)) (hBZ.same uz)
end
end K01

set_option Elab.async false
set_option linter.all false
set_option maxRecDepth 100000
set_option maxHeartbeats 4000000
namespace K01
open PySem PySem.Spec PyProof.Rows L2 Hs Hm
section
variable {P : Program} {w : World} {K : PySem.W.Frag} {mg : Str → Option Value} {base : Heap} {f : Addr} {fd : FuncData}
def spLaw (K : PySem.W.Frag) : Sp := fun vs H Q _ => ∃ (a : Addr) (ns : List Int), vs = [.ref a] ∧ SqL K H a (ns.map V.int) ∧ ns.length ≤ 63 ∧ ∀ G, Q (.bl true) G
abbrev lawN : List Str := ["_law_script", "_law_k", "_law_box_here", "_law_turn"]
theorem scLaw : FnScope lawN ["_law_script"] (defScope sLaw) := ⟨rfl, rfl, rfl, by decide +kernel, rfl, by decide +kernel, by decide +kernel⟩
theorem ok_law {k : Nat} {fB fR : Addr} {dB dR : FuncData} (F : Fun K "law" "law" sLaw f fd) (B : B0 mg) (Bo : Fx P w K mg base k "_law_box" ["_law_script", "_law_k"] (spBox K) fB dB)
    (R : FnG P w K mg base CX0 k fR dR ["_law_box_here"] (spRight K)) (mR : mg "_law_right" = some (.ref fR)) (kR : PySem.W.keepIn K (.ref fR) = true) (bR : Binds K dR ["_law_box_here"] []) :
    FnG P w K mg base CX0 (k + 1) f fd ["_law_script"] (spLaw K) := by
  refine fun_okG F scLaw (fun vs H Q E h => ?_) (fun cdv A outer s H vs Q E gd0 hr h => ?_)
  · obtain ⟨a, ns, rfl, _⟩ := h; rfl
  obtain ⟨a, ns, rfl, hS, hn, q⟩ := h
  have gd : (A.deeper (envOfC "law" (defScope sLaw) s.heap.objs.size f cdv)).guards = some [] := gd0
  refine ⟨_, pss_cons (ps_for PassesOwn.never rfl (pi_range1 (by rfl) B.range (pa_cons (pe_op op_add pe_int (pe_callB (call_min2 rfl) (by rfl) B.min PyProof.Rows.boot_min (pa_cons pe_int (pa_cons (pe_callB call_len_seq (by rfl) B.len PySem.boot_len (pa_cons (pv 0) pa_nil)) pa_nil)))) pa_nil)) (pg_name (i := 1) scLaw.nd rfl (.inl rfl))
      (pss_cons (ps_set (i := 2) scLaw.nd rfl (.inr rfl) (pe_call Bo.ok hr (by rfl) Bo.m Bo.k Bo.b .nil pass0 (pa_cons (pv 0) (pa_cons (pv 1) pa_nil))))
      (pss_one (ps_if (pt_not (pt_val (pe_callB (cr_all rfl) (by rfl) B.all PyProof.Rows.boot_all (pa_cons (pe_lc (own := [("_law_turn", 3)]) (g := gName 3) (tt := tYes) (te := tCall (spRight K) [] E0 (tCons (tVar 2) tNil)) (by rfl) scLaw.nd (pi_range1 (by rfl) B.range (pa_cons pe_int pa_nil))
        (blkOk_by (N := lawN) (sc := defScope sLaw) (by decide +kernel)) (fun _ _ _ _ _ => pg_name (i := 3) scLaw.nd rfl (Or.inl rfl)) (fun _ _ _ _ _ => pts_nil) (fun _ _ _ _ _ => pe_callG R gd hr (by rfl) mR kR bR pass0 (pa_cons (pv 2) pa_nil))) pa_nil)))) (pss_one (ps_ret pe_bl)) pss_nil))))
    (pss_one (ps_ret pe_bl)), ?_⟩
  refine ⟨_, rfl, a, _, rfl, .inl hS, _, _, rfl, _, _, rfl, rfl, _, rfl, ?_, ?_, ?_⟩
  · have z : (0 : Int) ≤ (if ((((ns.map V.int).length : Nat) : Int)) < 3 then (((ns.map V.int).length : Nat) : Int) else 3) := by split <;> omega
    show -(2 ^ 62) ≤ (1 : Int) + _; omega
  · have z : (if ((((ns.map V.int).length : Nat) : Int)) < 3 then (((ns.map V.int).length : Nat) : Int) else 3) ≤ 3 := by split <;> omega
    show (1 : Int) + _ < 2 ^ 62; omega
  refine for_it (walk_range (lo := 0)) (fun i σ G => (∃ y1 y2, σ = [some (.ref a), y1, y2, none]) ∧ SqL K G a (ns.map V.int)) ⟨⟨none, none, rfl⟩, hS⟩ (fun _ _ _ _ _ => trivial) (fun i x σ G G' hi p y => ?_) (fun σ G p => q G)
  obtain ⟨⟨y1, y2, rfl⟩, hSG⟩ := p
  obtain ⟨rfl, rfl⟩ := y
  refine ⟨_, rfl, _, rfl, a, ns, _, rfl, hSG, (by show (0 : Int) ≤ 0 + (i : Int); omega), fun b x y nb hx => ?_⟩
  have hSb : SqL K (hid (upd G' b (.lst [.int x, .int y, .int 0])) b) a (ns.map V.int) := by rw [hid_upd, hid_id nb]; exact hSG
  have hB : BoxAt (upd G' b (.lst [.int x, .int y, .int 0])) b 1000 := ⟨x, y, 0, upd_same, hx, Int.le_refl 0, by decide⟩
  generalize upd G' b (.lst [.int x, .int y, .int 0]) = G1 at hSb hB
  refine ⟨2, rfl, by decide, by decide, fun D nD => ?_⟩
  have nDb : D ≠ b := box_ne hB nD
  refine lc_it (walk_range (lo := 0) (n := 2)) (fun j J => Ap b G1 J ∧ BoxAt J b (1000 - 200 * j) ∧ J D = some (.lst ((List.replicate j true).map V.bl))) ⟨ap_same (same_new nD), box_up hB nDb, upd_same⟩ (fun _ _ _ _ => trivial) (fun j x J J' hj p y => ?_) (fun J p => ?_)
  · obtain ⟨ap, hBJ, hD⟩ := p
    obtain ⟨rfl, rfl⟩ := y
    refine ⟨rfl, _, rfl, b, 1000 - 200 * (j + 1), rfl, hBJ.mono (by omega), fun J2 ap2 hB2 => ?_⟩
    have hD2 := ap_get ap2 hD nDb
    refine ⟨_, hD2, ?_, ap_up (ap.trans ap2) nD, box_up hB2 nDb, ?_⟩
    · rw [List.length_map, List.length_replicate]; exact small1000 (by omega)
    · rw [upd_same, List.replicate_succ', List.map_append]; rfl
  · obtain ⟨ap, hBJ, hD⟩ := p
    refine ⟨D, _, rfl, SqL.of hD, _, rfl, iteF ⟨⟨_, _, rfl⟩, (hid_same J b).seq (Same.seq ap hSb)⟩⟩
end
end K01

set_option Elab.async false
set_option linter.all false
set_option maxRecDepth 100000
set_option maxHeartbeats 4000000
namespace K01
open PySem PySem.Spec PyProof.Rows L2 Hs Hm
theorem all_mk {l : PySem.W.OpenLaw} {w : World} {K : PySem.W.Frag} {h : Heap} {mg : Str → Option Value} {fa f1 f2 f3 f4 f5 f6 f7 f8 f9 f10 f11 f12 f13 f14 f15 f16 f17 f18 f19 f20 f21 f22 f23 : Addr} (X : K.In h) (G : h.Ns mainGlobals mg) (hfa : mg "law" = some (.ref fa))
    {od1 an1 od2 an2 od3 an3 od4 an4 od5 an5 od6 an6 od7 an7 od8 an8 od9 an9 od10 an10 od11 an11 od12 an12 od13 an13 od14 an14 od15 an15 od16 an16 od17 an17 od18 an18 od19 an19 od20 an20 od21 an21 od22 an22 od23 an23 : Option Addr} {sl1 sl2 sl3 sl4 sl5 sl6 sl7 sl8 sl9 sl10 sl11 sl12 sl13 sl14 sl15 sl16 sl17 sl18 sl19 sl20 sl21 sl22 sl23 : Array (Option Value)} {oc1 kV1 dc1 pm1 cd1 ct1 oc2 kV2 dc2 pm2 cd2 ct2 oc3 kV3 dc3 pm3 cd3 ct3 oc4 kV4 dc4 pm4 cd4 ct4 oc5 kV5 dc5 pm5 cd5 ct5 oc6 kV6 dc6 pm6 cd6 ct6 oc7 kV7 dc7 pm7 cd7 ct7 oc8 kV8 dc8 pm8 cd8 ct8 oc9 kV9 dc9 pm9 cd9 ct9 oc10 kV10 dc10 pm10 cd10 ct10 oc11 kV11 dc11 pm11 cd11 ct11 oc12 kV12 dc12 pm12 cd12 ct12 oc13 kV13 dc13 pm13 cd13 ct13 oc14 kV14 dc14 pm14 cd14 ct14 oc15 kV15 dc15 pm15 cd15 ct15 oc16 kV16 dc16 pm16 cd16 ct16 oc17 kV17 dc17 pm17 cd17 ct17 oc18 kV18 dc18 pm18 cd18 ct18 oc19 kV19 dc19 pm19 cd19 ct19 oc20 kV20 dc20 pm20 cd20 ct20 oc21 kV21 dc21 pm21 cd21 ct21 oc22 kV22 dc22 pm22 cd22 ct22 oc23 kV23 dc23 pm23 cd23 ct23 : Value}
    (a1 : PySem.W.nsIn K mainGlobals "is_number" = some (some (.ref f1))) (l1 : K.lookup f1 = some ⟨oc1, od1, .func (PySem.W.fnOf "is_number" "is_number" (defArgs sIsNumber) (defBody sIsNumber) (defScope sIsNumber) .none kV1 dc1 pm1 an1 cd1 ct1), sl1⟩) (c1 : PySem.W.codeIn K cd1 "is_number" = true) (k1 : PySem.W.keepIn K (.ref f1) = true)
    (a2 : PySem.W.nsIn K mainGlobals "is_person" = some (some (.ref f2))) (l2 : K.lookup f2 = some ⟨oc2, od2, .func (PySem.W.fnOf "is_person" "is_person" (defArgs sIsPerson) (defBody sIsPerson) (defScope sIsPerson) .none kV2 dc2 pm2 an2 cd2 ct2), sl2⟩) (c2 : PySem.W.codeIn K cd2 "is_person" = true) (k2 : PySem.W.keepIn K (.ref f2) = true)
    (a3 : PySem.W.nsIn K mainGlobals "all_paired" = some (some (.ref f3))) (l3 : K.lookup f3 = some ⟨oc3, od3, .func (PySem.W.fnOf "all_paired" "all_paired" (defArgs sAllPaired) (defBody sAllPaired) (defScope sAllPaired) .none kV3 dc3 pm3 an3 cd3 ct3), sl3⟩) (c3 : PySem.W.codeIn K cd3 "all_paired" = true) (k3 : PySem.W.keepIn K (.ref f3) = true)
    (a4 : PySem.W.nsIn K mainGlobals "some_cross" = some (some (.ref f4))) (l4 : K.lookup f4 = some ⟨oc4, od4, .func (PySem.W.fnOf "some_cross" "some_cross" (defArgs sSomeCross) (defBody sSomeCross) (defScope sSomeCross) .none kV4 dc4 pm4 an4 cd4 ct4), sl4⟩) (c4 : PySem.W.codeIn K cd4 "some_cross" = true) (k4 : PySem.W.keepIn K (.ref f4) = true)
    (a5 : PySem.W.nsIn K mainGlobals "is_arrangement" = some (some (.ref f5))) (l5 : K.lookup f5 = some ⟨oc5, od5, .func (PySem.W.fnOf "is_arrangement" "is_arrangement" (defArgs sIsArr) (defBody sIsArr) (defScope sIsArr) .none kV5 dc5 pm5 an5 cd5 ct5), sl5⟩) (c5 : PySem.W.codeIn K cd5 "is_arrangement" = true) (k5 : PySem.W.keepIn K (.ref f5) = true)
    (a6 : PySem.W.nsIn K mainGlobals "arms" = some (some (.ref f6))) (l6 : K.lookup f6 = some ⟨oc6, od6, .func (PySem.W.fnOf "arms" "arms" (defArgs sArms) (defBody sArms) (defScope sArms) .none kV6 dc6 pm6 an6 cd6 ct6), sl6⟩) (c6 : PySem.W.codeIn K cd6 "arms" = true) (k6 : PySem.W.keepIn K (.ref f6) = true)
    (a7 : PySem.W.nsIn K mainGlobals "cross" = some (some (.ref f7))) (l7 : K.lookup f7 = some ⟨oc7, od7, .func (PySem.W.fnOf "cross" "cross" (defArgs sCross) (defBody sCross) (defScope sCross) .none kV7 dc7 pm7 an7 cd7 ct7), sl7⟩) (c7 : PySem.W.codeIn K cd7 "cross" = true) (k7 : PySem.W.keepIn K (.ref f7) = true)
    (a8 : PySem.W.nsIn K mainGlobals "_law_cell_at" = some (some (.ref f8))) (l8 : K.lookup f8 = some ⟨oc8, od8, .func (PySem.W.fnOf "_law_cell_at" "_law_cell_at" (defArgs sCellAt) (defBody sCellAt) (defScope sCellAt) .none kV8 dc8 pm8 an8 cd8 ct8), sl8⟩) (c8 : PySem.W.codeIn K cd8 "_law_cell_at" = true) (k8 : PySem.W.keepIn K (.ref f8) = true)
    (a9 : PySem.W.nsIn K mainGlobals "_law_box" = some (some (.ref f9))) (l9 : K.lookup f9 = some ⟨oc9, od9, .func (PySem.W.fnOf "_law_box" "_law_box" (defArgs sBox) (defBody sBox) (defScope sBox) .none kV9 dc9 pm9 an9 cd9 ct9), sl9⟩) (c9 : PySem.W.codeIn K cd9 "_law_box" = true) (k9 : PySem.W.keepIn K (.ref f9) = true)
    (a10 : PySem.W.nsIn K mainGlobals "_law_take" = some (some (.ref f10))) (l10 : K.lookup f10 = some ⟨oc10, od10, .func (PySem.W.fnOf "_law_take" "_law_take" (defArgs sTake) (defBody sTake) (defScope sTake) .none kV10 dc10 pm10 an10 cd10 ct10), sl10⟩) (c10 : PySem.W.codeIn K cd10 "_law_take" = true) (k10 : PySem.W.keepIn K (.ref f10) = true)
    (a11 : PySem.W.nsIn K mainGlobals "_law_of" = some (some (.ref f11))) (l11 : K.lookup f11 = some ⟨oc11, od11, .func (PySem.W.fnOf "_law_of" "_law_of" (defArgs sOf) (defBody sOf) (defScope sOf) .none kV11 dc11 pm11 an11 cd11 ct11), sl11⟩) (c11 : PySem.W.codeIn K cd11 "_law_of" = true) (k11 : PySem.W.keepIn K (.ref f11) = true)
    (a12 : PySem.W.nsIn K mainGlobals "_law_same" = some (some (.ref f12))) (l12 : K.lookup f12 = some ⟨oc12, od12, .func (PySem.W.fnOf "_law_same" "_law_same" (defArgs sSame) (defBody sSame) (defScope sSame) .none kV12 dc12 pm12 an12 cd12 ct12), sl12⟩) (c12 : PySem.W.codeIn K cd12 "_law_same" = true) (k12 : PySem.W.keepIn K (.ref f12) = true)
    (a13 : PySem.W.nsIn K mainGlobals "_law_strewn" = some (some (.ref f13))) (l13 : K.lookup f13 = some ⟨oc13, od13, .func (PySem.W.fnOf "_law_strewn" "_law_strewn" (defArgs sStrewn) (defBody sStrewn) (defScope sStrewn) .none kV13 dc13 pm13 an13 cd13 ct13), sl13⟩) (c13 : PySem.W.codeIn K cd13 "_law_strewn" = true) (k13 : PySem.W.keepIn K (.ref f13) = true)
    (a14 : PySem.W.nsIn K mainGlobals "_law_is_int" = some (some (.ref f14))) (l14 : K.lookup f14 = some ⟨oc14, od14, .func (PySem.W.fnOf "_law_is_int" "_law_is_int" (defArgs sIsInt) (defBody sIsInt) (defScope sIsInt) .none kV14 dc14 pm14 an14 cd14 ct14), sl14⟩) (c14 : PySem.W.codeIn K cd14 "_law_is_int" = true) (k14 : PySem.W.keepIn K (.ref f14) = true)
    (a15 : PySem.W.nsIn K mainGlobals "_law_hall" = some (some (.ref f15))) (l15 : K.lookup f15 = some ⟨oc15, od15, .func (PySem.W.fnOf "_law_hall" "_law_hall" (defArgs sHall) (defBody sHall) (defScope sHall) .none kV15 dc15 pm15 an15 cd15 ct15), sl15⟩) (c15 : PySem.W.codeIn K cd15 "_law_hall" = true) (k15 : PySem.W.keepIn K (.ref f15) = true)
    (a16 : PySem.W.nsIn K mainGlobals "_law_pairs" = some (some (.ref f16))) (l16 : K.lookup f16 = some ⟨oc16, od16, .func (PySem.W.fnOf "_law_pairs" "_law_pairs" (defArgs sPairs) (defBody sPairs) (defScope sPairs) .none kV16 dc16 pm16 an16 cd16 ct16), sl16⟩) (c16 : PySem.W.codeIn K cd16 "_law_pairs" = true) (k16 : PySem.W.keepIn K (.ref f16) = true)
    (a17 : PySem.W.nsIn K mainGlobals "_law_crossed" = some (some (.ref f17))) (l17 : K.lookup f17 = some ⟨oc17, od17, .func (PySem.W.fnOf "_law_crossed" "_law_crossed" (defArgs sCrossed) (defBody sCrossed) (defScope sCrossed) .none kV17 dc17 pm17 an17 cd17 ct17), sl17⟩) (c17 : PySem.W.codeIn K cd17 "_law_crossed" = true) (k17 : PySem.W.keepIn K (.ref f17) = true)
    (a18 : PySem.W.nsIn K mainGlobals "_law_clear" = some (some (.ref f18))) (l18 : K.lookup f18 = some ⟨oc18, od18, .func (PySem.W.fnOf "_law_clear" "_law_clear" (defArgs sClear) (defBody sClear) (defScope sClear) .none kV18 dc18 pm18 an18 cd18 ct18), sl18⟩) (c18 : PySem.W.codeIn K cd18 "_law_clear" = true) (k18 : PySem.W.keepIn K (.ref f18) = true)
    (a19 : PySem.W.nsIn K mainGlobals "_law_seated" = some (some (.ref f19))) (l19 : K.lookup f19 = some ⟨oc19, od19, .func (PySem.W.fnOf "_law_seated" "_law_seated" (defArgs sSeated) (defBody sSeated) (defScope sSeated) .none kV19 dc19 pm19 an19 cd19 ct19), sl19⟩) (c19 : PySem.W.codeIn K cd19 "_law_seated" = true) (k19 : PySem.W.keepIn K (.ref f19) = true)
    (a20 : PySem.W.nsIn K mainGlobals "_law_bent" = some (some (.ref f20))) (l20 : K.lookup f20 = some ⟨oc20, od20, .func (PySem.W.fnOf "_law_bent" "_law_bent" (defArgs sBent) (defBody sBent) (defScope sBent) .none kV20 dc20 pm20 an20 cd20 ct20), sl20⟩) (c20 : PySem.W.codeIn K cd20 "_law_bent" = true) (k20 : PySem.W.keepIn K (.ref f20) = true)
    (a21 : PySem.W.nsIn K mainGlobals "_law_is_hall" = some (some (.ref f21))) (l21 : K.lookup f21 = some ⟨oc21, od21, .func (PySem.W.fnOf "_law_is_hall" "_law_is_hall" (defArgs sIsHall) (defBody sIsHall) (defScope sIsHall) .none kV21 dc21 pm21 an21 cd21 ct21), sl21⟩) (c21 : PySem.W.codeIn K cd21 "_law_is_hall" = true) (k21 : PySem.W.keepIn K (.ref f21) = true)
    (a22 : PySem.W.nsIn K mainGlobals "_law_right" = some (some (.ref f22))) (l22 : K.lookup f22 = some ⟨oc22, od22, .func (PySem.W.fnOf "_law_right" "_law_right" (defArgs sRight) (defBody sRight) (defScope sRight) .none kV22 dc22 pm22 an22 cd22 ct22), sl22⟩) (c22 : PySem.W.codeIn K cd22 "_law_right" = true) (k22 : PySem.W.keepIn K (.ref f22) = true)
    (a23 : PySem.W.nsIn K mainGlobals "law" = some (some (.ref f23))) (l23 : K.lookup f23 = some ⟨oc23, od23, .func (PySem.W.fnOf "law" "law" (defArgs sLaw) (defBody sLaw) (defScope sLaw) .none kV23 dc23 pm23 an23 cd23 ct23), sl23⟩) (c23 : PySem.W.codeIn K cd23 "law" = true) (k23 : PySem.W.keepIn K (.ref f23) = true)
    (z1 : PySem.W.nsIn K mainGlobals "isinstance" = some none)
    (z2 : PySem.W.nsIn K mainGlobals "int" = some none)
    (z3 : PySem.W.nsIn K mainGlobals "bool" = some none)
    (z4 : PySem.W.nsIn K mainGlobals "list" = some none)
    (z5 : PySem.W.nsIn K mainGlobals "tuple" = some none)
    (z6 : PySem.W.nsIn K mainGlobals "len" = some none)
    (z7 : PySem.W.nsIn K mainGlobals "enumerate" = some none)
    (z8 : PySem.W.nsIn K mainGlobals "abs" = some none)
    (z9 : PySem.W.nsIn K mainGlobals "zip" = some none)
    (z10 : PySem.W.nsIn K mainGlobals "all" = some none)
    (z11 : PySem.W.nsIn K mainGlobals "range" = some none)
    (z12 : PySem.W.nsIn K mainGlobals "min" = some none)
    (z13 : PySem.W.nsIn K mainGlobals "max" = some none)
    (z14 : PySem.W.nsIn K mainGlobals "sorted" = some none)
    (z15 : PySem.W.nsIn K mainGlobals "any" = some none)
    (z16 : PySem.W.nsIn K mainGlobals "str" = some none)
    (z17 : PySem.W.nsIn K mainGlobals "repr" = some none) :
    ∃ fd : FuncData, (∀ (s : Shared) (v : Value), BindsTo s fd ⟨[v], []⟩ [("_law_script", v)]) ∧ ∀ base : Heap, K.In base → base.Ns mainGlobals mg → FnG l.prog w K mg base CX0 10 fa fd ["_law_script"] (spLaw K) := by
  have e := hfa.symm.trans (PySem.W.mg_of X G a23)
  cases e
  have F1 := fun_mk (st := sIsNumber) l1 c1 k1
  have b1 := F1.binds (ps := ["thing"]) fun _ _ _ _ _ _ us hl => match us, hl with | [_], _ => rfl
  have m1 := PySem.W.mg_of X G a1
  have F2 := fun_mk (st := sIsPerson) l2 c2 k2
  have b2 := F2.binds (ps := ["thing", "people"]) fun _ _ _ _ _ _ us hl => match us, hl with | [_, _], _ => rfl
  have m2 := PySem.W.mg_of X G a2
  have F3 := fun_mk (st := sAllPaired) l3 c3 k3
  have b3 := F3.binds (ps := ["partners"]) fun _ _ _ _ _ _ us hl => match us, hl with | [_], _ => rfl
  have m3 := PySem.W.mg_of X G a3
  have F4 := fun_mk (st := sSomeCross) l4 c4 k4
  have b4 := F4.binds (ps := ["partners"]) fun _ _ _ _ _ _ us hl => match us, hl with | [_], _ => rfl
  have m4 := PySem.W.mg_of X G a4
  have F5 := fun_mk (st := sIsArr) l5 c5 k5
  have b5 := F5.binds (ps := ["thing"]) fun _ _ _ _ _ _ us hl => match us, hl with | [_], _ => rfl
  have m5 := PySem.W.mg_of X G a5
  have F6 := fun_mk (st := sArms) l6 c6 k6
  have b6 := F6.binds (ps := ["arrangement"]) fun _ _ _ _ _ _ us hl => match us, hl with | [_], _ => rfl
  have m6 := PySem.W.mg_of X G a6
  have F7 := fun_mk (st := sCross) l7 c7 k7
  have b7 := F7.binds (ps := ["one", "other"]) fun _ _ _ _ _ _ us hl => match us, hl with | [_, _], _ => rfl
  have m7 := PySem.W.mg_of X G a7
  have F8 := fun_mk (st := sCellAt) l8 c8 k8
  have b8 := F8.binds (ps := ["_law_script", "_law_k"]) fun _ _ _ _ _ _ us hl => match us, hl with | [_, _], _ => rfl
  have m8 := PySem.W.mg_of X G a8
  have F9 := fun_mk (st := sBox) l9 c9 k9
  have b9 := F9.binds (ps := ["_law_script", "_law_k"]) fun _ _ _ _ _ _ us hl => match us, hl with | [_, _], _ => rfl
  have m9 := PySem.W.mg_of X G a9
  have F10 := fun_mk (st := sTake) l10 c10 k10
  have b10 := F10.binds (ps := ["_law_box_here", "_law_below"]) fun _ _ _ _ _ _ us hl => match us, hl with | [_, _], _ => rfl
  have m10 := PySem.W.mg_of X G a10
  have F11 := fun_mk (st := sOf) l11 c11 k11
  have b11 := F11.binds (ps := ["_law_box_here", "_law_some"]) fun _ _ _ _ _ _ us hl => match us, hl with | [_, _], _ => rfl
  have m11 := PySem.W.mg_of X G a11
  have F12 := fun_mk (st := sSame) l12 c12 k12
  have b12 := F12.binds (ps := ["_law_found", "_law_due"]) fun _ _ _ _ _ _ us hl => match us, hl with | [_, _], _ => rfl
  have m12 := PySem.W.mg_of X G a12
  have F13 := fun_mk (st := sStrewn) l13 c13 k13
  have b13 := F13.binds (ps := ["_law_box_here", "_law_some"]) fun _ _ _ _ _ _ us hl => match us, hl with | [_, _], _ => rfl
  have m13 := PySem.W.mg_of X G a13
  have F14 := fun_mk (st := sIsInt) l14 c14 k14
  have b14 := F14.binds (ps := ["_law_matter"]) fun _ _ _ _ _ _ us hl => match us, hl with | [_], _ => rfl
  have m14 := PySem.W.mg_of X G a14
  have F15 := fun_mk (st := sHall) l15 c15 k15
  have b15 := F15.binds (ps := ["_law_box_here", "_law_few"]) fun _ _ _ _ _ _ us hl => match us, hl with | [_, _], _ => rfl
  have m15 := PySem.W.mg_of X G a15
  have F16 := fun_mk (st := sPairs) l16 c16 k16
  have b16 := F16.binds (ps := ["_law_hall_here"]) fun _ _ _ _ _ _ us hl => match us, hl with | [_], _ => rfl
  have m16 := PySem.W.mg_of X G a16
  have F17 := fun_mk (st := sCrossed) l17 c17 k17
  have b17 := F17.binds (ps := ["_law_duo", "_law_its"]) fun _ _ _ _ _ _ us hl => match us, hl with | [_, _], _ => rfl
  have m17 := PySem.W.mg_of X G a17
  have F18 := fun_mk (st := sClear) l18 c18 k18
  have b18 := F18.binds (ps := ["_law_duos"]) fun _ _ _ _ _ _ us hl => match us, hl with | [_], _ => rfl
  have m18 := PySem.W.mg_of X G a18
  have F19 := fun_mk (st := sSeated) l19 c19 k19
  have b19 := F19.binds (ps := ["_law_size", "_law_duos"]) fun _ _ _ _ _ _ us hl => match us, hl with | [_, _], _ => rfl
  have m19 := PySem.W.mg_of X G a19
  have F20 := fun_mk (st := sBent) l20 c20 k20
  have b20 := F20.binds (ps := ["_law_box_here", "_law_part"]) fun _ _ _ _ _ _ us hl => match us, hl with | [_, _], _ => rfl
  have m20 := PySem.W.mg_of X G a20
  have F21 := fun_mk (st := sIsHall) l21 c21 k21
  have b21 := F21.binds (ps := ["_law_matter"]) fun _ _ _ _ _ _ us hl => match us, hl with | [_], _ => rfl
  have m21 := PySem.W.mg_of X G a21
  have F22 := fun_mk (st := sRight) l22 c22 k22
  have b22 := F22.binds (ps := ["_law_box_here"]) fun _ _ _ _ _ _ us hl => match us, hl with | [_], _ => rfl
  have m22 := PySem.W.mg_of X G a22
  have F23 := fun_mk (st := sLaw) l23 c23 k23
  have b23 := F23.binds (ps := ["_law_script"]) fun _ _ _ _ _ _ us hl => match us, hl with | [_], _ => rfl
  have m23 := PySem.W.mg_of X G a23
  have y1 := PySem.W.mg_none_of X G z1
  have y2 := PySem.W.mg_none_of X G z2
  have y3 := PySem.W.mg_none_of X G z3
  have y4 := PySem.W.mg_none_of X G z4
  have y5 := PySem.W.mg_none_of X G z5
  have y6 := PySem.W.mg_none_of X G z6
  have y7 := PySem.W.mg_none_of X G z7
  have y8 := PySem.W.mg_none_of X G z8
  have y9 := PySem.W.mg_none_of X G z9
  have y10 := PySem.W.mg_none_of X G z10
  have y11 := PySem.W.mg_none_of X G z11
  have y12 := PySem.W.mg_none_of X G z12
  have y13 := PySem.W.mg_none_of X G z13
  have y14 := PySem.W.mg_none_of X G z14
  have y15 := PySem.W.mg_none_of X G z15
  have y16 := PySem.W.mg_none_of X G z16
  have y17 := PySem.W.mg_none_of X G z17
  have B : B0 mg := ⟨y1, y2, y3, y4, y5, y6, y7, y8, y9, y10, y11, y12⟩
  refine ⟨PySem.W.fnOf "law" "law" (defArgs sLaw) (defBody sLaw) (defScope sLaw) .none kV23 dc23 pm23 an23 cd23 ct23, fun s v => .of_eq rfl, fun base _ _ => ?_⟩
  have g1 := ok_is_number (P := l.prog) (w := w) (base := base) (k := 0) F1 B
  have g2 := ok_is_person (P := l.prog) (w := w) (base := base) (k := 1) F2 g1 b1 k1 m1
  have g3 := ok_all_paired (P := l.prog) (w := w) (base := base) (k := 2) F3 B g2 b2 k2 m2
  have g4 := ok_some_cross (P := l.prog) (w := w) (base := base) (k := 0) F4 B
  have g5 := ok_is_arr (P := l.prog) (w := w) (base := base) (k := 3) F5 B g3 b3 k3 m3 (g4.mono (by decide)) b4 k4 m4
  have g6 := ok_arms (P := l.prog) (w := w) (base := base) (k := 0) F6 B
  have g7 := ok_cross (P := l.prog) (w := w) (base := base) (k := 0) F7 y14
  have g8 := ok_cell_at (P := l.prog) (w := w) (base := base) (k := 0) F8 B
  have g9 := ok_box (P := l.prog) (w := w) (base := base) (k := 1) F9 B g8 b8 k8 m8
  have g10 := ok_take (P := l.prog) (w := w) (base := base) F10 b10 m10
  have g11 := ok_of (P := l.prog) (w := w) (base := base) (k := 1) F11 B g10 b10 k10 m10
  have g12 := ok_same (P := l.prog) (w := w) (base := base) F12 B y16 b12 m12 8
  have g13 := ok_strewn (P := l.prog) (w := w) (base := base) (k := 1) F13 B g10 b10 k10 m10
  have g14 := ok_is_int (P := l.prog) (w := w) (base := base) (k := 0) F14 B
  have g15 := ok_hall (P := l.prog) (w := w) (base := base) (k := 1) F15 B g10 b10 k10 m10
  have g16 := ok_pairs (P := l.prog) (w := w) (base := base) (k := 0) F16 B
  have g17 := ok_crossed (P := l.prog) (w := w) (base := base) (k := 0) F17 y12 y13
  have g18 := ok_clear (P := l.prog) (w := w) (base := base) (k := 1) F18 B y15 g17 b17 k17 m17
  have g19 := ok_seated (P := l.prog) (w := w) (base := base) (k := 0) F19 B
  have gn := (ok_no (P := l.prog) (w := w) (K := K) (mg := mg) (base := base) (f := f20) (fd := PySem.W.fnOf "_law_bent" "_law_bent" (defArgs sBent) (defBody sBent) (defScope sBent) .none kV20 dc20 pm20 an20 cd20 ct20) (ps := ["_law_box_here", "_law_part"])).mono (k := 2) (by decide)
  have gb := ok_bent0 (P := l.prog) (w := w) (base := base) (k := 2) F20 B y16 b20 m20 gn (g10.mono (by decide)) b10 k10 m10 g11 b11 k11 m11
  have g20 := ok_bent (P := l.prog) (w := w) (base := base) (k := 3) F20 B y16 b20 m20 gb (g10.mono (by decide)) b10 k10 m10 (g11.mono (by decide)) b11 k11 m11
  have g21 := ok_is_hall (P := l.prog) (w := w) (base := base) (k := 2) F21 B (g14.mono (by decide)) b14 k14 m14 (g16.mono (by decide)) b16 k16 m16 g18 b18 k18 m18
  have gr := ok_right (P := l.prog) (w := w) (base := base) (k := 8) F22 B y17 ⟨g15.mono (by decide), m15, k15, b15⟩ ⟨g10.mono (by decide), m10, k10, b10⟩ ⟨g16.mono (by decide), m16, k16, b16⟩ ⟨⟨g6.mono (by decide), m6, k6, b6⟩, konly1 F6 fun _ _ _ _ _ _ _ => rfl⟩ ⟨g12.mono (by decide), m12, k12, b12⟩ ⟨g13.mono (by decide), m13, k13, b13⟩ ⟨g19.mono (by decide), m19, k19, b19⟩ ⟨g20.mono (by decide), m20, k20, b20⟩ ⟨g21.mono (by decide), m21, k21, b21⟩ ⟨⟨g5.mono (by decide), m5, k5, b5⟩, konly1 F5 fun _ _ _ _ _ _ _ => rfl⟩ ⟨g17.mono (by decide), m17, k17, b17⟩ ⟨⟨g7.mono (by decide), m7, k7, b7⟩, konly2 F7 fun _ _ _ _ _ _ _ _ => rfl⟩
  exact ok_law (k := 9) F23 B ⟨g9.mono (by decide), m9, k9, b9⟩ gr m22 k22 b22
theorem walk {l : PySem.W.OpenLaw} {q : Program} {loose : List Str} {XP : (Str → Option Value) → Heap → Prop} {YP : World → Heap → Prop} {d : DefRec} {K : Params → PySem.W.Frag} (hn : l.most = some 63) (hdf : d.params.defaults = []) (hY : ∀ (w : World) (h : Heap), YP w h → (K w.params).In h)
    (F : ∀ (w : World) (mg : Str → Option Value) (fa : Addr) (h : Heap), (K w.params).In h → h.Ns mainGlobals mg → mg d.name = some (.ref fa) → ∃ fd : FuncData, (∀ (s : Shared) (u : Value), BindsTo s fd ⟨[u], []⟩ [("_law_script", u)]) ∧ ∀ base : Heap, (K w.params).In base → base.Ns mainGlobals mg → FnG l.prog w (K w.params) mg base CX0 10 fa fd ["_law_script"] (spLaw (K w.params))) :
    PySem.W.WalkO q loose XP YP l.row.toRowW d [] (fun f vs => PySem.call f vs) :=
  walk_ofG (n := 63) (k := 10) (x := "_law_script") (sp := fun w => spLaw (K w.params)) hn (by decide) hdf ⟨rfl, by decide, by decide⟩ hY F (fun _ _ a ns hl _ hS => ⟨a, ns, rfl, hS, hl, fun _ => rfl⟩)
end K01

open PySem PySem.W PyProof.Rows
set_option Elab.async false
set_option maxRecDepth 100000 in
set_option maxHeartbeats 0 in
theorem PySem.Challenge.cw_handshakes_k01_arrangements_or_not_holds : PySem.Challenge.rw_handshakes_k01_arrangements_or_not.Holds := by
  w_on; o_law; k_head; (case hw => w_witness2)
  k_fill
  refine K01.walk (l := PySem.Challenge.rw_handshakes_k01_arrangements_or_not) rfl rfl (fun w h Y => PySem.W.kIn_of Y) ?F
  case F =>
    intro w mg fa h KX G hmg
    refine' K01.all_mk KX G hmg ?a1 ?l1 ?c1 ?k1 ?a2 ?l2 ?c2 ?k2 ?a3 ?l3 ?c3 ?k3 ?a4 ?l4 ?c4 ?k4 ?a5 ?l5 ?c5 ?k5 ?a6 ?l6 ?c6 ?k6 ?a7 ?l7 ?c7 ?k7 ?a8 ?l8 ?c8 ?k8 ?a9 ?l9 ?c9 ?k9 ?a10 ?l10 ?c10 ?k10 ?a11 ?l11 ?c11 ?k11 ?a12 ?l12 ?c12 ?k12 ?a13 ?l13 ?c13 ?k13 ?a14 ?l14 ?c14 ?k14 ?a15 ?l15 ?c15 ?k15 ?a16 ?l16 ?c16 ?k16 ?a17 ?l17 ?c17 ?k17 ?a18 ?l18 ?c18 ?k18 ?a19 ?l19 ?c19 ?k19 ?a20 ?l20 ?c20 ?k20 ?a21 ?l21 ?c21 ?k21 ?a22 ?l22 ?c22 ?k22 ?a23 ?l23 ?c23 ?k23 ?z1 ?z2 ?z3 ?z4 ?z5 ?z6 ?z7 ?z8 ?z9 ?z10 ?z11 ?z12 ?z13 ?z14 ?z15 ?z16 ?z17
    (case a1 => k_is); (case l1 => k_is); (case c1 => k_is); (case k1 => k_is)
    (case a2 => k_is); (case l2 => k_is); (case c2 => k_is); (case k2 => k_is)
    (case a3 => k_is); (case l3 => k_is); (case c3 => k_is); (case k3 => k_is)
    (case a4 => k_is); (case l4 => k_is); (case c4 => k_is); (case k4 => k_is)
    (case a5 => k_is); (case l5 => k_is); (case c5 => k_is); (case k5 => k_is)
    (case a6 => k_is); (case l6 => k_is); (case c6 => k_is); (case k6 => k_is)
    (case a7 => k_is); (case l7 => k_is); (case c7 => k_is); (case k7 => k_is)
    (case a8 => k_is); (case l8 => k_is); (case c8 => k_is); (case k8 => k_is)
    (case a9 => k_is); (case l9 => k_is); (case c9 => k_is); (case k9 => k_is)
    (case a10 => k_is); (case l10 => k_is); (case c10 => k_is); (case k10 => k_is)
    (case a11 => k_is); (case l11 => k_is); (case c11 => k_is); (case k11 => k_is)
    (case a12 => k_is); (case l12 => k_is); (case c12 => k_is); (case k12 => k_is)
    (case a13 => k_is); (case l13 => k_is); (case c13 => k_is); (case k13 => k_is)
    (case a14 => k_is); (case l14 => k_is); (case c14 => k_is); (case k14 => k_is)
    (case a15 => k_is); (case l15 => k_is); (case c15 => k_is); (case k15 => k_is)
    (case a16 => k_is); (case l16 => k_is); (case c16 => k_is); (case k16 => k_is)
    (case a17 => k_is); (case l17 => k_is); (case c17 => k_is); (case k17 => k_is)
    (case a18 => k_is); (case l18 => k_is); (case c18 => k_is); (case k18 => k_is)
    (case a19 => k_is); (case l19 => k_is); (case c19 => k_is); (case k19 => k_is)
    (case a20 => k_is); (case l20 => k_is); (case c20 => k_is); (case k20 => k_is)
    (case a21 => k_is); (case l21 => k_is); (case c21 => k_is); (case k21 => k_is)
    (case a22 => k_is); (case l22 => k_is); (case c22 => k_is); (case k22 => k_is)
    (case a23 => k_is); (case l23 => k_is); (case c23 => k_is); (case k23 => k_is)
    (case z1 => k_is); (case z2 => k_is); (case z3 => k_is); (case z4 => k_is); (case z5 => k_is); (case z6 => k_is); (case z7 => k_is); (case z8 => k_is); (case z9 => k_is); (case z10 => k_is); (case z11 => k_is); (case z12 => k_is); (case z13 => k_is); (case z14 => k_is); (case z15 => k_is); (case z16 => k_is); (case z17 => k_is)
#print axioms PySem.Challenge.cw_handshakes_k01_arrangements_or_not_holds

