import PyProof.Rows.All
import Wide.All
import OpenK.AllK
import Wide.FinOn
import HandS.ForMost
import HandS.Evl
import HandS.Steps
import HandS.Wide
import HandS.IsInst
import HandS.Exc
import HandS.ExcOwn
import HandS.TryOnly
import HandS.WordsExc
import HandS.Defaults
import HandS.ExcSuper
import PyProof.ReprRoads
import KE.KExcSuper
import KE.KSuper
import HandS.TryMany
import HandS.ExcIs
import KE.KExcIs
import HandS.ExcCtx
import HandS.HotCalls
import PyProof.Rows.TupIter
import PyProof.Rows.TupAssign
import PyProof.LongRange
import HandS.WideBits
import PyProof.ReprLen
import HandS.SortOrd
import HandS.SortRule
import HandS.SetFor
import HandS.SortInts
import PySem.Challenge.RW_imagetones_k04_slopes_signal_by_signal
set_option Elab.async false
set_option linter.all false
set_option maxRecDepth 100000
namespace HX
open PySem PySem.Spec PyProof.Rows L2

/-! ### defs whose callers are known to be no repr of anything (so repr's own guard is silent) -/
structure FnG (P : Program) (w : World) (K : PySem.W.Frag) (mg : Str → Option Value) (base : Heap) (CX : CXT) (k : Nat) (f : Addr) (fd : FuncData) (ps : List Str) (sp : Sp) : Prop where
  len : ∀ vs H Q E, sp vs H Q E → vs.length = ps.length
  run : ∀ (A : Around) (outer : List Env) (s : Shared) (H : Hp) (args : Args) (us : List Value) (vs : List V) (Q : VK) (E : XK),
    A.guards = some [] → Room k A → Env0 P w K mg base A outer s H → BindsTo s fd args (ps.zip us) → Vals vs us → sp vs H Q E →
      codeAny (model P w) A (.call (.ref f) args) (CR CX outer P w H s Q E) s

section
variable {P : Program} {w : World} {K : PySem.W.Frag} {mg : Str → Option Value} {base : Heap} {CX : CXT} {k j : Nat} {f : Addr} {fd : FuncData} {ps : List Str} {sp : Sp}
theorem FnG.of (F : FnOk P w K mg base CX k f fd ps sp) : FnG P w K mg base CX k f fd ps sp :=
  ⟨F.len, fun A outer s H args us vs Q E _ => F.run A outer s H args us vs Q E⟩
theorem FnG.mono (F : FnG P w K mg base CX j f fd ps sp) (h : j ≤ k) : FnG P w K mg base CX k f fd ps sp :=
  ⟨F.len, fun A outer s H args us vs Q E g r => F.run A outer s H args us vs Q E g (r.mono h)⟩

theorem okG {x qual : Str} {st : Stmt} {N : List Str} (F : Fun K x qual st f fd) (S : FnScope N ps (defScope st)) (len : ∀ vs H Q E, sp vs H Q E → vs.length = ps.length)
    (hbody : ∀ (cdv : Value) (A : Around) (outer : List Env) (s : Shared) (H : Hp) (vs : List V) (Q : VK) (E : XK), A.guards = some [] →
      Room k (A.deeper (envOfC qual (defScope st) s.heap.objs.size f cdv)) → sp vs H Q E →
      ∃ t, PSs (cxOf CX P w K mg base N qual (defScope st) f cdv A outer s H E) (defBody st) t ∧ t { nx := fun _ H' => Q .non H', rt := Q } (start N vs) H) :
    FnG P w K mg base CX (k + 1) f fd ps sp := by
  obtain ⟨oc, od, kV, doc, pm, an, cdv, ct, osl, rfl, lk, hcd⟩ := F.ex
  constructor
  · exact len
  intro A outer s H args us vs Q E hgd hr e0 hb r hsp
  have hl := len _ _ _ _ hsp
  have kept : ∀ b o, base.get? b = some o → s.heap.get? b = some o := fun b o e => (e0.bs b o e).1
  have KX : K.In s.heap := e0.mod.kin.keeps kept
  have lim : s.heap.NoLimit := e0.mod.nolimit.keeps kept
  have hkind : ∀ y ∈ ps.zip us, (defScope st).names.lookup y.1 = some .local ∨
      ((defScope st).names.lookup y.1 = some .cell ∧ ((cellsFrom (s.heap.objs.size + 1) (defScope st).names []).lookup y.1).isSome = true) := by
    rintro ⟨n, v⟩ hy
    rcases S.par n (List.of_mem_zip hy).1 with q | q
    · exact .inl q
    · exact .inr ⟨q, PySem.W.cellsFrom_some _ _ _ (.inl q)⟩
  apply codeAny_call_function hr.depth (KX _ _ lk) rfl S.co S.gen rfl (PySem.W.codeRec_of KX hcd)
  apply hb
  refine wpAny_newFunctionEnv_cells S.kind hkind fun env he s1 x => ?_
  subst he
  refine ⟨lim.keeps x.toInCall.keep, codeAny_func ?_⟩
  obtain ⟨t, ht, hq⟩ := hbody cdv A outer s H vs Q E hgd (hr.deeper _) hsp
  have I := inv_start (CX := CX) (E := E) S hr.hd e0 hl r x
  refine wpAny_mono (ht.run [] s1 (start N vs) H _ I hq) (fun fl s' hs => ?_) fun e s' hs => hs
  cases fl with
  | ret u => obtain ⟨v, σ', H', J, rv, q⟩ := hs; exact ⟨v, H', J.os, J.bare, J.base, J.hok, rv, q⟩
  | next => obtain ⟨σ', H', J, q⟩ := hs; exact ⟨V.non, H', J.os, J.bare, J.base, J.hok, rfl, q⟩
  | brk => obtain ⟨_, _, _, q⟩ := hs; exact q.elim
  | cont => obtain ⟨_, _, _, q⟩ := hs; exact q.elim
end

section
variable {X : Cx} {CX : CXT} {k : Nat} {f : Addr} {fd : FuncData} {ps : List Str} {sp : Sp} {dvs : List V} {ds : List Value} {E : XK} {x : Str} {p pos : Pos} {e : Expr} {es : List Expr} {t : TA}
theorem run_g {pins : List (Addr × Obj)} {σ : L2.St} {H : Hp} {s : Shared} {Q : VK} {us : List Value} {vs : List V} (F : FnG X.prog X.w X.K X.mg X.base CX k f fd ps sp) (hgd : X.A.guards = some []) (hr : Room k X.A)
    (hb : Binds X.K fd ps ds) (hd : Vals dvs ds) (hx : Passes CX X E) (I : Inv X pins σ H s) (r : Vals vs us) (h : sp (vs ++ dvs) H Q E) :
    wpAny (model X.prog X.w) X.A (call (.ref f) us) (EP X pins σ Q) X.xe s := by
  have r2 : Vals (vs ++ dvs) (us ++ ds) := r.append hd
  have hl : (us ++ ds).length = ps.length := r2.length.symm.trans (F.len _ _ _ _ h)
  apply wpAny_call
  refine codeAny_mono (F.run X.A X.stack s H ⟨us, []⟩ (us ++ ds) (vs ++ dvs) Q E hgd hr I.env0 (hb s us I.kIn hl) r2 h) ?_
  intro r s' hq
  match r, hq with
  | .error e, hq => exact hx pins σ H s e s' I hq
  | .ok (.ret u), hq => exact I.after hq

/-- f(e, ..) of such a def -/
theorem pe_callG (F : FnG X.prog X.w X.K X.mg X.base CX k f fd ps sp) (hgd : X.A.guards = some []) (hr : Room k X.A) (hg : Gl X x) (hm : X.mg x = some (.ref f)) (hk : PySem.W.keepIn X.K (.ref f) = true)
    (hb : Binds X.K fd ps ds) (hd : Vals dvs ds) (hx : Passes CX X E) (ha : PA X (e :: es) t) (hdb : (x == ("__debug__" : Str)) = false := by decide)
    (he : starEach (e :: es) X.env = (false, eval e X.env) :: starEach es X.env := by rfl) (hpl : (backTo pos (starEach es X.env)).any (·.1) = false := by rfl) :
    PE X (.Call (.Name x p) (e :: es) [] pos) (tCall sp dvs E t) := by
  constructor
  intro pins s σ H Q I h
  apply wpAny_Call_Name_kw
  refine ld_glob I hg hm ?_ hdb
  refine PySem.W.callWith_K (h₀ := X.base) I.ok.mod.kin hk ?_ he hpl
  refine thn (ha.run pos pins s σ H _ I h) ?_
  rintro us s1 ⟨vs, H1, I1, r, q⟩
  exact ⟨I1.kIn, run_g F hgd hr hb hd hx I1 r q⟩
end

/-! ### numbers -/
section
variable {X : Cx}
/-- ** of a base of at most b bits with a written exponent -/
def CPowW (i j : Int) : Prop := 0 ≤ j ∧ (Builtin.Int.intBits i : Int) * j ≤ 2 ^ 27
theorem op_powW : OpR X (binaryOp .Pow) (rI CPowW fun i j => .int (i ^ j.toNat)) := opI fun _ _ _ _ _ _ _ hc q => PyProof.Rows.pow_int hc.1 hc.2 q
end
theorem wide_pow {i j : Int} {b : Nat} (h : i.natAbs < 2 ^ b) (h0 : 0 ≤ j) (hb : ((b : Int) + 1) * j ≤ 2 ^ 27) : CPowW i j := by
  have hle : Builtin.Int.intBits i ≤ b + 1 := by
    unfold Builtin.Int.intBits
    split
    · omega
    · rename_i hz
      by_cases hb0 : b = 0
      · subst hb0
        have hz0 : i.natAbs = 0 := by simpa using h
        rw [hz0]
        decide
      · have hq : i.natAbs.log2 < b := PySem.Flt.log2_lt_of (Nat.pos_of_ne_zero hb0) h
        omega
  refine ⟨h0, Int.le_trans ?_ hb⟩
  exact Int.mul_le_mul_of_nonneg_right (by omega) h0
end HX

set_option Elab.async false
set_option linter.all false
set_option maxRecDepth 100000
namespace HX
open PySem PySem.Spec PyProof.Rows L2

/-! ### data at any depth that is tracked: none, bools, ints, texts, lists, tuples, the empty dict -/
mutual
inductive Dq (H : Hp) : V → PyData → Prop
  | non : Dq H .non .none
  | bl (b : Bool) : Dq H (.bl b) (.bool b)
  | int (i : Int) : Dq H (.int i) (.int i)
  | str (x : Str) : Dq H (.str x) (.str x)
  | lst {a : Addr} {xs : List V} {ds : List PyData} : Rd H a (.lst xs) → DqAll H xs ds → Dq H (.ref a) (.list ds)
  | tup {a : Addr} {xs : List V} {ds : List PyData} : Rd H a (.tup xs) → DqAll H xs ds → Dq H (.ref a) (.tuple ds)
  | dic {a : Addr} : H a = some (.dK []) → Dq H (.ref a) (.dict [])
inductive DqAll (H : Hp) : List V → List PyData → Prop
  | nil : DqAll H [] []
  | cons {v : V} {vs : List V} {d : PyData} {ds : List PyData} : Dq H v d → DqAll H vs ds → DqAll H (v :: vs) (d :: ds)
end

open Evl (Ex)
mutual
theorem Dq.ex {H H' : Hp} (e : Ex H H') : ∀ {v : V} {d : PyData}, Dq H v d → Dq H' v d
  | _, _, .non => .non
  | _, _, .bl b => .bl b
  | _, _, .int i => .int i
  | _, _, .str x => .str x
  | _, _, .lst h k => .lst (Evl.ex_rd e h) (DqAll.ex e k)
  | _, _, .tup h k => .tup (Evl.ex_rd e h) (DqAll.ex e k)
  | _, _, .dic h => .dic (e _ _ h)
theorem DqAll.ex {H H' : Hp} (e : Ex H H') : ∀ {vs : List V} {ds : List PyData}, DqAll H vs ds → DqAll H' vs ds
  | _, _, .nil => .nil
  | _, _, .cons h k => .cons (Dq.ex e h) (DqAll.ex e k)
end
theorem DqAll.len {H : Hp} : ∀ {vs : List V} {ds : List PyData}, DqAll H vs ds → vs.length = ds.length
  | _, _, .nil => rfl
  | _, _, .cons _ k => congrArg (· + 1) k.len
theorem DqAll.app {H : Hp} : ∀ {vs ws : List V} {ds es : List PyData}, DqAll H vs ds → DqAll H ws es → DqAll H (vs ++ ws) (ds ++ es)
  | _, _, _, _, .nil, k => k
  | _, _, _, _, .cons h t, k => .cons h (t.app k)
theorem DqAll.get {H : Hp} : ∀ {vs : List V} {ds : List PyData} {i : Nat} {v : V}, DqAll H vs ds → vs[i]? = some v → ∃ d, ds[i]? = some d ∧ Dq H v d
  | _, _, _, _, .nil, e => by simp at e
  | _, _, 0, _, .cons h _, e => by simp at e; subst e; exact ⟨_, rfl, h⟩
  | _, _, i + 1, v, .cons _ t, e => by
    obtain ⟨d, h1, h2⟩ := DqAll.get (i := i) (v := v) t (by simpa using e)
    exact ⟨d, by simpa using h1, h2⟩
theorem DqAll.one {H : Hp} {v : V} {d : PyData} (h : Dq H v d) : DqAll H [v] [d] := .cons h .nil
theorem DqAll.rep {H : Hp} {v : V} {d : PyData} (h : Dq H v d) : ∀ n, DqAll H (List.replicate n v) (List.replicate n d)
  | 0 => .nil
  | n + 1 => .cons h (DqAll.rep h n)
theorem DqAll.take {H : Hp} : ∀ {vs : List V} {ds : List PyData} (n : Nat), DqAll H vs ds → DqAll H (vs.take n) (ds.take n)
  | _, _, 0, _ => by simpa using DqAll.nil
  | _, _, _ + 1, .nil => by simpa using DqAll.nil
  | _, _, n + 1, .cons h t => by simpa using DqAll.cons h (t.take n)
theorem DqAll.drop {H : Hp} : ∀ {vs : List V} {ds : List PyData} (n : Nat), DqAll H vs ds → DqAll H (vs.drop n) (ds.drop n)
  | _, _, 0, k => by simpa using k
  | _, _, _ + 1, .nil => by simpa using DqAll.nil
  | _, _, n + 1, .cons h t => by simpa using t.drop n
/-- an object of data is none that changes: what changes is elsewhere -/
theorem dq_ne {H : Hp} {a : Addr} {o u : HO} (h : H a = some o) (k : Rd H a u) (d : o ≠ u) (f : ∀ ob, o ≠ .frz ob u) : False := by
  rcases k with k | ⟨ob, k⟩
  · exact d (Option.some.inj (h.symm.trans k))
  · exact f ob (Option.some.inj (h.symm.trans k))

mutual
theorem Dq.dp {K : PySem.W.Frag} {H : Hp} : ∀ {v : V} {d : PyData}, Dq H v d → d.hasDict = false → Dp K H v d
  | _, _, .non, _ => .non
  | _, _, .bl b, _ => .bl b
  | _, _, .int i, _ => .int i
  | _, _, .str x, _ => .str x
  | _, _, .lst h k, e => .lst (.inl h) (DqAll.dp k (by simpa [PyData.hasDict] using e))
  | _, _, .tup h k, e => .tup (.inl h) (DqAll.dp k (by simpa [PyData.hasDict] using e))
  | _, _, .dic h, e => by simp [PyData.hasDict] at e
theorem DqAll.dp {K : PySem.W.Frag} {H : Hp} : ∀ {vs : List V} {ds : List PyData}, DqAll H vs ds → PyData.hasDictAll ds = false → DpAll K H vs ds
  | _, _, .nil, _ => .nil
  | _, _, .cons h k, e => by
    simp only [PyData.hasDictAll, Bool.or_eq_false_iff] at e
    exact .cons (h.dp e.1) (k.dp e.2)
end

section
variable {X : Cx} {pins : List (Addr × Obj)} {σ : L2.St} {H : Hp} {s : Shared}
/-- an empty dict that is tracked, as the heap has it -/
theorem dic_at (I : Inv X pins σ H s) {a : Addr} (h : H a = some (.dK [])) : ∃ o n, s.heap.get? a = some o ∧ o.cls = .type "dict" ∧ o.data = .dict #[] n ∧ (a == sysModules) = false := by
  obtain ⟨_, hsys, vs, kv, o, es, ep, h1, h2, h3, h4⟩ := (show ObjOk X.prog X.w H s.heap a (.dK []) from I.hok a _ h)
  cases kv
  have he : es.toList = [] := List.length_eq_zero_iff.mp (by simpa using h4.2.1.length)
  have he2 : es = #[] := by cases es; simpa using he
  exact ⟨o, ep, h1, h2.1, by rw [← he2]; exact h3, hsys⟩
mutual
theorem Dq.rk (I : Inv X pins σ H s) : ∀ {d : PyData} {v : V} {u : Value}, Dq H v d → RelV v u → d.showable = true → d.shown.length ≤ sizeLine →
    ∃ as bs, Reads s.heap u d as ∧ ReadAtMost s.heap d.depth bs ∧ ReprK X.prog X.w bs s.heap d.depth u d.shown
  | _, _, _, .non, r, _, _ => by cases r; exact ⟨_, [], Reads.none, (fun _ h => nomatch h), by simp only [PyData.shown]; exact .of_is ReprIs.none _ _ _⟩
  | _, _, _, .bl b, r, _, _ => by cases r; exact ⟨_, [], Reads.bool b, (fun _ h => nomatch h), by simp only [PyData.shown]; exact .of_is (ReprIs.bool b) _ _ _⟩
  | _, _, _, .int i, r, hs, _ => by
    obtain ⟨t, rfl⟩ := r
    exact ⟨_, [], Reads.int i t, (fun _ h => nomatch h), by simp only [PyData.shown]; exact .of_is (ReprIs.int t (by simpa [PyData.showable] using hs)) _ _ _⟩
  | _, _, _, .str x, r, _, hz => by
    obtain ⟨t, rfl⟩ := r
    exact ⟨_, [], Reads.str x t, (fun _ h => nomatch h), by simp only [PyData.shown]; exact .of_is (ReprIs.str x t (by simpa only [PyData.shown] using hz)) _ _ _⟩
  | _, _, _, .lst (a := a) (ds := ds) hs ha, r, hw, hz => by
    cases r
    have hz' : (listText (PyData.shownAll ds)).length ≤ sizeLine := by simpa only [PyData.shown] using hz
    obtain ⟨its, rv, ⟨o, n, ho, hc, _, hd⟩, _⟩ := I.list (X := X) (Or.inl hs)
    obtain ⟨as, bs, hr, hb, hk⟩ := DqAll.rk I ha rv (by simpa [PyData.showable] using hw) (fun t ht => Nat.le_trans (listText_mem_le ht) hz')
    have r : Reads s.heap (.ref a) (.list ds) _ := .list ho hc hd (by simpa using hr)
    have hna : a ∉ bs := not_mem_of_deeper r (by simp only [PyData.depth]; omega) hb
    refine ⟨_, a :: bs, r, ReadAtMost.cons r (by simp only [PyData.depth]; omega) hb, ?_⟩
    simp only [PyData.depth, PyData.shown]
    cases its with
    | nil =>
      cases hr
      simp only [PyData.shownAll, listText_nil]
      exact ReprK.listEmpty ho hc hd
    | cons x l => exact ReprK.list ho hc hd hna (by simpa using hk.length_eq) (fun i y e => hk.item i y (by simpa using e))
  | _, _, _, .tup (a := a) (ds := ds) hs ha, r, hw, hz => by
    cases r
    have hz' : (tupleText (PyData.shownAll ds)).length ≤ sizeLine := by simpa only [PyData.shown] using hz
    obtain ⟨its, rv, ⟨o, ho, hc, n, hd⟩, _⟩ := I.tuple (X := X) (Or.inl hs)
    obtain ⟨as, bs, hr, hb, hk⟩ := DqAll.rk I ha rv (by simpa [PyData.showable] using hw) (fun t ht => Nat.le_trans (tupleText_mem_le ht) hz')
    have r : Reads s.heap (.ref a) (.tuple ds) _ := .tuple ho hc hd (by simpa using hr)
    have hna : a ∉ bs := not_mem_of_deeper r (by simp only [PyData.depth]; omega) hb
    refine ⟨_, a :: bs, r, ReadAtMost.cons r (by simp only [PyData.depth]; omega) hb, ?_⟩
    simp only [PyData.depth, PyData.shown]
    exact ReprK.tuple ho hc hd hna (by simpa using hk)
  | _, _, _, .dic (a := a) ha, r, _, _ => by
    cases r
    obtain ⟨o, n, ho, hc, hd, hsys⟩ := dic_at I ha
    have r : Reads s.heap (.ref a) (.dict []) _ := .dict (kvs := []) ho hc hd .nil .nil
    refine ⟨_, [a], r, ReadAtMost.cons r (Nat.le_refl _) (fun _ h => nomatch h), ?_⟩
    simp only [PyData.depth, PyData.shown, PyData.shownKv]
    exact ReprK.dict ho hc hd hsys (by simp) .nil
theorem DqAll.rk (I : Inv X pins σ H s) : ∀ {ds : List PyData} {vs : List V} {us : List Value}, DqAll H vs ds → Vals vs us → PyData.showableAll ds = true → (∀ t ∈ PyData.shownAll ds, t.length ≤ sizeLine) →
    ∃ as bs, ReadsAll s.heap us ds as ∧ ReadAtMost s.heap (PyData.depthAll ds) bs ∧ ReprAllK X.prog X.w bs s.heap (PyData.depthAll ds) us (PyData.shownAll ds)
  | _, _, _, .nil, r, _, _ => by cases r; exact ⟨_, [], ReadsAll.nil, (fun _ h => nomatch h), by simp only [PyData.shownAll]; exact .nil⟩
  | _, _, _, .cons (d := d) (ds := ds) h1 h2, r, hw, hz => by
    cases r with
    | cons r1 r2 =>
      have hw' : d.showable = true ∧ PyData.showableAll ds = true := by simpa [PyData.showableAll] using hw
      obtain ⟨as, b1, q1, z1, k1⟩ := Dq.rk I h1 r1 hw'.1 (hz _ (by simp only [PyData.shownAll]; exact List.mem_cons_self))
      obtain ⟨cs, b2, q2, z2, k2⟩ := DqAll.rk I h2 r2 hw'.2 (fun t ht => hz t (by simp only [PyData.shownAll]; exact List.mem_cons_of_mem _ ht))
      refine ⟨_, b1 ++ b2, ReadsAll.cons q1 q2, ?_, ?_⟩
      · simp only [PyData.depthAll]
        exact (z1.mono (Nat.le_max_left _ _)).append (z2.mono (Nat.le_max_right _ _))
      · simp only [PyData.depthAll, PyData.shownAll]
        exact .cons ((k1.more fun b hb => List.mem_append_left _ hb).level_le (Nat.le_max_left _ _)) (k2.more_le (fun b hb => List.mem_append_right _ hb) (Nat.le_max_right _ _))
end
end

/-! ### repr of data -/
/-- what is asked of data that is shown: its ints are no giants, its text is not too long, it is not too deep -/
def Shw (d : PyData) : Prop := d.showable = true ∧ d.shown.length ≤ sizeLine ∧ d.depth ≤ 60
def rRepr : List V → Hp → VK → Prop := fun xs H Q => ∃ x d, xs = [x] ∧ Dq H x d ∧ Shw d ∧ Q (.str d.shown) H
section
variable {X : Cx}
theorem call_repr (hgd : X.A.guards = some []) (hu : X.A.units + 64 < cLine) : CallR X (.builtin "repr") rRepr := by
  intro pins s σ H xs us Q I r h
  obtain ⟨x, d, rfl, hd, ⟨hs, hz, hdp⟩, q⟩ := h
  obtain ⟨u, rfl, rx⟩ := vals1 r
  have fin : ∀ (h' : Heap) (u : Tok) (tk : Nat), (∀ b o, s.heap.get? b = some o → h'.get? b = some o) → EP X pins σ Q (.str d.shown u) { s with heap := h', toks := tk } :=
    fun h' u tk hk => ⟨.str d.shown, H, I.kept hk, ⟨_, rfl⟩, q⟩
  cases hd with
  | non => cases rx; exact PySem.P.repr_of_none (by simpa [PyData.shown] using fin s.heap _ _ fun _ _ e => e)
  | bl b => cases rx; exact PySem.P.repr_of_bool (by simpa [PyData.shown] using fin s.heap _ _ fun _ _ e => e)
  | int i => obtain ⟨t, rfl⟩ := rx; exact PySem.P.repr_of_int (by simpa [PyData.showable] using hs) (by simpa [PyData.shown] using fin s.heap _ _ fun _ _ e => e)
  | str y => obtain ⟨t, rfl⟩ := rx; exact PySem.P.repr_of_str (by simpa [PyData.shown] using fin s.heap _ _ fun _ _ e => e) (by simpa [PyData.shown] using hz)
  | lst h1 h2 =>
    rename_i a xs ds
    cases rx
    have hz' : (listText (PyData.shownAll ds)).length ≤ sizeLine := by simpa only [PyData.shown] using hz
    obtain ⟨its, rv, ⟨o, n, ho, hc, _, hd⟩, _⟩ := I.list (X := X) (Or.inl h1)
    obtain ⟨as, bs, hr, hb, hk⟩ := DqAll.rk I h2 rv (by simpa [PyData.showable] using hs) (fun t ht => Nat.le_trans (listText_mem_le ht) hz')
    have hna : a ∉ bs := not_mem_of_deeper (.list ho hc hd (by simpa using hr)) (by simp only [PyData.depth]; omega) hb
    simp only [PyData.depth] at hdp
    simp only [PyData.shown] at fin
    refine call_repr_slot (by omega) ⟨o, ho, hc⟩ F.slot_list_repr.toG ?_
    cases its with
    | nil =>
      cases hr
      simp only [PyData.shownAll, listText_nil] at fin
      exact call_list_repr_empty ⟨o, ho, hc⟩ ho hd ⟨_, _, rfl, fin s.heap _ _ fun _ _ e => e⟩
    | cons x l =>
      exact call_list_reprK ho hc hd hna (by simpa using hk.length_eq) (fun i y e => hk.item i y (by simpa using e)) hgd (fun b _ => Clear.nil b) (by show X.A.units + 1 + _ < cLine; omega) (fun _ _ e => e)
        (fun h' u tk hk => ⟨_, _, rfl, fin h' u tk hk⟩) hz'
  | tup h1 h2 =>
    rename_i a xs ds
    cases rx
    have hz' : (tupleText (PyData.shownAll ds)).length ≤ sizeLine := by simpa only [PyData.shown] using hz
    obtain ⟨its, rv, ⟨o, ho, hc, n, hd⟩, _⟩ := I.tuple (X := X) (Or.inl h1)
    obtain ⟨as, bs, hr, hb, hk⟩ := DqAll.rk I h2 rv (by simpa [PyData.showable] using hs) (fun t ht => Nat.le_trans (tupleText_mem_le ht) hz')
    have hna : a ∉ bs := not_mem_of_deeper (.tuple ho hc hd (by simpa using hr)) (by simp only [PyData.depth]; omega) hb
    simp only [PyData.depth] at hdp
    simp only [PyData.shown] at fin
    exact call_repr_slot (by omega) ⟨o, ho, hc⟩ F.slot_tuple_repr
      (call_tuple_reprK ho hc hd hna (by simpa using hk) hgd (fun b _ => Clear.nil b) (by show X.A.units + 1 + _ < cLine; omega) (fun _ _ e => e) (fun h' u tk hk => ⟨_, _, rfl, fin h' u tk hk⟩) hz')
  | dic h1 =>
    cases rx
    obtain ⟨o, n, ho, hc, hd, hsys⟩ := dic_at I h1
    simp only [PyData.shown, PyData.shownKv] at fin hz
    exact call_repr_slot (by omega) ⟨o, ho, hc⟩ F.slot_dict_repr
      (call_dict_reprK (as := []) (d := 0) ho hc hd hsys (by simp) .nil hgd (fun b _ => Clear.nil b) (by show X.A.units + 1 + _ < cLine; omega) (fun _ _ e => e) (fun h' u tk hk => ⟨_, _, rfl, fin h' u tk hk⟩) hz)
end
end HX

set_option Elab.async false
set_option linter.all false
set_option maxRecDepth 100000
namespace HX
open PySem PySem.Spec PyProof.Rows L2

/-! ### the end of a law whose def is an FnG -/
section
variable {P : Program} {w : World} {K : PySem.W.Frag} {mg mb : Str → Option Value} {k : Nat} {fa a : Addr} {fd : FuncData} {x : Str} {sp : Sp} {s₁ : Shared} {vs : List Value} {ns : List Int}
/-- what is wanted of the law's call -/
def LawEnd (s₁ : Shared) : Result → Shared → Prop := fun r s' => r = .ok (.ret (.bool true)) ∧ OldK s₁.heap s'.heap ∧ s'.os = s₁.os ∧ AllBare s'.gens
/-- the tracked heap at the start: the script, or nothing -/
theorem law_from (KX : K.In s₁.heap) (hns : s₁.heap.Ns mainGlobals mg) (hb : s₁.heap.Ns builtinsNs mb) (hbb : ∀ x : Str, x ≠ "__name__" → mb x = bootBuiltins x) (hlim : s₁.heap.NoLimit) (hg : s₁.gens = #[])
    (hr : Room k callerA) (FF : ∀ base : Heap, K.In base → base.Ns mainGlobals mg → FnG P w K mg base CX0 k fa fd [x] sp) (hbind : ∀ (s : Shared) (u : Value), BindsTo s fd ⟨[u], []⟩ [(x, u)])
    (hsp : ∀ H : Hp, Only H → SqL K H a (ns.map V.int) → sp [.ref a] H (fun v _ => v = .bl true) fun _ _ _ => False)
    (H : Hp) (hO : Only H) (hS : SqL K H a (ns.map V.int)) (hok : HOk P w H s₁.heap) (hn : ∀ b o, s₁.heap.get? b = some o → H b ≠ none → o.cls = .type "list" ∧ ∃ its n, o.data = .seq its n) (hK : ∀ b o, K.lookup b = some o → H b = none) :
    codeAny (model P w) callerA (.call (.ref fa) ⟨[.ref a], []⟩) (LawEnd s₁) s₁ := by
  have up : ∀ {b : Addr} {m : Str → Option Value}, s₁.heap.Ns b m → (hidT s₁.heap H).Ns b m := by
    rintro b m ⟨o, es, ep, e, d, r⟩
    have hb0 : H b = none := by
      cases q : H b with
      | none => rfl
      | some u =>
        obtain ⟨_, its, n, z⟩ := hn b o e (by rw [q]; simp)
        rw [d] at z; cases z
    exact ⟨o, es, ep, hidT_get e hb0, d, r⟩
  have hKb : K.In (hidT s₁.heap H) := fun b o e => hidT_get (KX b o e) (hK b o e)
  obtain ⟨mc, l1, l2⟩ := hlim
  have hM : Mod K mg (hidT s₁.heap H) := ⟨hKb, up hns, ⟨mb, up hb, hbb⟩, mc, up l1, l2⟩
  have e0 : Env0 P w K mg (hidT s₁.heap H) callerA [] s₁ H :=
    { frames := rfl, mod := hM, bs := fun b o e => of_hidT e, bsz := Nat.le_of_eq (hidT_size _ _), funs := trivial, frf := fun b z => absurd (show b ∈ ([] : List Addr) from z) (by simp), hok := hok, bare := .of_eq hg }
  refine codeAny_mono ((FF _ hKb (up hns)).run callerA [] s₁ H ⟨[.ref a], []⟩ [.ref a] [.ref a] _ _ rfl hr e0 (hbind s₁ (.ref a)) (.cons rfl .nil) (hsp H hO hS)) ?_
  intro r s' h
  match r, h with
  | .error e, h => exact h.elim
  | .ok (.ret u), ⟨v, H', os, bare, un, hok', r', q⟩ =>
    have q' : v = .bl true := q
    subst q'
    cases (show u = Value.bool true from r')
    refine ⟨rfl, OldK.of_keep fun b o e => ?_, os, bare⟩
    rcases hO b with z | ⟨ob, xs, z⟩
    · exact un.keep b o e z (fun m => absurd (show b ∈ ([] : List Addr) from m) (by simp)) (by simp)
    · obtain ⟨e1, _⟩ := hok b _ z
      obtain ⟨e2, _⟩ := hok' b _ (un.frzs b ob _ z)
      rw [e] at e1; cases e1
      exact e2
theorem law_callG (KX : K.In s₁.heap) (hns : s₁.heap.Ns mainGlobals mg) (hb : s₁.heap.Ns builtinsNs mb) (hbb : ∀ x : Str, x ≠ "__name__" → mb x = bootBuiltins x) (hlim : s₁.heap.NoLimit) (hg : s₁.gens = #[])
    (ha : s₁.heap.get? a = some { cls := .type "list", data := .seq vs.toArray }) (hi : IntsAre vs ns) (hl : ns.length ≤ sizeLine)
    (hr : Room k callerA) (FF : ∀ base : Heap, K.In base → base.Ns mainGlobals mg → FnG P w K mg base CX0 k fa fd [x] sp) (hbind : ∀ (s : Shared) (u : Value), BindsTo s fd ⟨[u], []⟩ [(x, u)])
    (hsp : ∀ H : Hp, Only H → SqL K H a (ns.map V.int) → sp [.ref a] H (fun v _ => v = .bl true) fun _ _ _ => False) :
    codeAny (model P w) callerA (.call (.ref fa) ⟨[.ref a], []⟩) (LawEnd s₁) s₁ := by
  have rv := vals_ints hi
  have lenV := hi.length
  cases hk : K.lookup a with
  | some o =>
    have e := KX a o hk
    rw [ha] at e
    cases e
    have hS : SqL K (fun _ => none) a (ns.map V.int) := .inr ⟨_, vs.toArray, _, hk, rfl, rfl, rfl, by rw [List.size_toArray, lenV]; exact hl, by simpa using rv⟩
    exact law_from KX hns hb hbb hlim hg hr FF hbind hsp (fun _ => none) (fun _ => .inl rfl) hS (fun b u z => nomatch z) (fun b o _ z => absurd rfl z) (fun _ _ _ => rfl)
  | none =>
    let H : Hp := fun b => if b = a then some (.frz { cls := .type "list", data := .seq vs.toArray } (.lst (ns.map V.int))) else none
    have Ha : H a = some (.frz { cls := .type "list", data := .seq vs.toArray } (.lst (ns.map V.int))) := if_pos rfl
    have Hn : ∀ b, b ≠ a → H b = none := fun b z => if_neg z
    refine law_from KX hns hb hbb hlim hg hr FF hbind hsp H (fun b => ?_) (.inl (.inr ⟨_, Ha⟩)) (fun b u z => ?_) (fun b o e z => ?_) (fun b o e => ?_)
    · by_cases hb : b = a
      · subst hb; exact .inr ⟨_, _, Ha⟩
      · exact .inl (Hn b hb)
    · by_cases hb : b = a
      · subst hb
        rw [Ha] at z
        cases z
        exact ⟨ha, by rw [List.length_map]; exact hl, vs, _, rv, ha⟩
      · rw [Hn b hb] at z
        cases z
    · by_cases hb : b = a
      · subst hb
        rw [ha] at e
        cases e
        exact ⟨rfl, _, _, rfl⟩
      · exact absurd (Hn b hb) z
    · refine Hn b fun z => ?_
      subst z
      rw [hk] at e
      cases e
end
/-- as walk_ofK of the layer, for an FnG -/
theorem walk_G {l : PySem.W.OpenLaw} {n k : Nat} {q : Program} {loose : List Str} {XP : (Str → Option Value) → Heap → Prop} {YP : World → Heap → Prop} {d : DefRec} {K : Params → PySem.W.Frag} {sp : PySem.W.Frag → Sp} {x : Str}
    (hn : l.most = some n) (hn2 : n ≤ sizeLine) (hdf : d.params.defaults = []) (hr : Room k callerA) (hY : ∀ (w : World) (h : Heap), YP w h → (K w.params).In h)
    (FF : ∀ (w : World) (mg : Str → Option Value) (fa : Addr) (h : Heap), (K w.params).In h → h.Ns mainGlobals mg → mg d.name = some (.ref fa) →
      ∃ fd : FuncData, (∀ (s : Shared) (u : Value), BindsTo s fd ⟨[u], []⟩ [(x, u)]) ∧ ∀ base : Heap, (K w.params).In base → base.Ns mainGlobals mg → FnG l.prog w (K w.params) mg base CX0 k fa fd [x] (sp (K w.params)))
    (hsp : ∀ (K : PySem.W.Frag) (H : Hp) (a : Addr) (ns : List Int), ns.length ≤ n → Only H → SqL K H a (ns.map V.int) → sp K [.ref a] H (fun v _ => v = .bl true) fun _ _ _ => False) :
    PySem.W.WalkO q loose XP YP l.row.toRowW d [] (fun f vs => PySem.call f vs) := by
  refine Att.attach_call hn hdf fun w s₀ s₁ mg mb fa o pm cd doc a vs ns G Y ho hd hcd hmg hobj hints hlen hg => ?_
  obtain ⟨fd, hb, hF⟩ := FF w mg fa _ (hY w _ Y) G.T.g hmg
  exact law_callG (hY w _ Y) G.T.g G.T.b G.T.builtins G.T.nolimit hg hobj hints (Nat.le_trans hlen hn2) hr hF hb (fun H hO hS => hsp _ H a ns hlen hO hS)
end HX

set_option Elab.async false
set_option linter.all false
set_option maxRecDepth 100000
namespace HX
open PySem PySem.Spec PyProof.Rows L2
open Evl (Ex)

/-! ### a def of the module, called by its name -/
def Has (P : Program) (w : World) (K : PySem.W.Frag) (mg : Str → Option Value) (base : Heap) (k : Nat) (x : Str) (sp : Sp) : Prop :=
  ∃ (f : Addr) (fd : FuncData) (ps : List Str), FnOk P w K mg base CX0 k f fd ps sp ∧ mg x = some (.ref f) ∧ PySem.W.keepIn K (.ref f) = true ∧ Binds K fd ps []
def HasG (P : Program) (w : World) (K : PySem.W.Frag) (mg : Str → Option Value) (base : Heap) (k : Nat) (x : Str) (sp : Sp) : Prop :=
  ∃ (f : Addr) (fd : FuncData) (ps : List Str), FnG P w K mg base CX0 k f fd ps sp ∧ mg x = some (.ref f) ∧ PySem.W.keepIn K (.ref f) = true ∧ Binds K fd ps []
section
variable {X : Cx} {k n : Nat} {sp : Sp} {x : Str} {p pos : Pos} {e : Expr} {es : List Expr} {t : TA}
theorem pe_hs (h : Has X.prog X.w X.K X.mg X.base k x sp) (hr : Room n X.A) (hg : Gl X x) (ha : PA X (e :: es) t) (hkn : k ≤ n := by decide) (hdb : (x == ("__debug__" : Str)) = false := by decide)
    (he : starEach (e :: es) X.env = (false, eval e X.env) :: starEach es X.env := by rfl) (hpl : (backTo pos (starEach es X.env)).any (·.1) = false := by rfl) :
    PE X (.Call (.Name x p) (e :: es) [] pos) (tCall sp [] E0 t) := by
  obtain ⟨f, fd, ps, F, hm, hk, hb⟩ := h
  exact pe_call F (hr.mono hkn) hg hm hk hb .nil pass0 ha hdb he hpl
theorem pe_hsG (h : HasG X.prog X.w X.K X.mg X.base k x sp) (hgd : X.A.guards = some []) (hr : Room n X.A) (hg : Gl X x) (ha : PA X (e :: es) t) (hkn : k ≤ n := by decide) (hdb : (x == ("__debug__" : Str)) = false := by decide)
    (he : starEach (e :: es) X.env = (false, eval e X.env) :: starEach es X.env := by rfl) (hpl : (backTo pos (starEach es X.env)).any (·.1) = false := by rfl) :
    PE X (.Call (.Name x p) (e :: es) [] pos) (tCall sp [] E0 t) := by
  obtain ⟨f, fd, ps, F, hm, hk, hb⟩ := h
  exact pe_callG F hgd (hr.mono hkn) hg hm hk hb .nil pass0 ha hdb he hpl
end

/-! ### objects that turn (a jar, a list that grows), all else stands -/
def hid (S : List Addr) (H : Hp) : Hp := fun b => if b ∈ S then none else H b
theorem hid_ne {S : List Addr} {b : Addr} {H : Hp} (h : b ∉ S) : hid S H b = H b := if_neg h
theorem hid_upd {S : List Addr} {j : Addr} {H : Hp} {o : HO} (hj : j ∈ S) : hid S (upd H j o) = hid S H := by
  funext b
  unfold hid
  by_cases h : b ∈ S
  · rw [if_pos h, if_pos h]
  · rw [if_neg h, if_neg h, upd_ne (fun z => h (by rw [z]; exact hj))]
theorem hid_some {S : List Addr} {H : Hp} {b : Addr} {o : HO} (e : hid S H b = some o) : b ∉ S ∧ H b = some o := by
  unfold hid at e
  by_cases h : b ∈ S
  · rw [if_pos h] at e; cases e
  · rw [if_neg h] at e; exact ⟨h, e⟩
theorem hid_ex {S : List Addr} {H : Hp} : Ex (hid S H) H := fun b o e => (hid_some e).2
theorem hid_sub {S T : List Addr} {H : Hp} (h : ∀ b, b ∈ T → b ∈ S) : Ex (hid S H) (hid T H) := fun b o e => by
  obtain ⟨h1, h2⟩ := hid_some e
  rw [hid_ne fun z => h1 (h b z)]
  exact h2
theorem hid_free {S : List Addr} {p : Addr} {H : Hp} (h : H p = none) : hid S H p = none := by
  unfold hid
  split
  · rfl
  · exact h
/-- a step that may turn the objects of S and lays new ones -/
abbrev Jx (S : List Addr) (H H' : Hp) : Prop := Ex (hid S H) (hid S H')
theorem Jx.of {S : List Addr} {H H' : Hp} (e : Ex H H') : Jx S H H' := fun b o q => by
  obtain ⟨h1, h2⟩ := hid_some q
  rw [hid_ne h1]
  exact e b o h2
theorem Jx.upd {S : List Addr} {j : Addr} {H : Hp} {o : HO} (hj : j ∈ S) : Jx S H (upd H j o) := by
  show Ex (hid S H) (hid S (L2.upd H j o))
  rw [hid_upd hj]
  exact Ex.refl _
theorem Jx.refl {S : List Addr} (H : Hp) : Jx S H H := Ex.refl _
theorem Jx.tr {S : List Addr} {H H1 H2 : Hp} (a : Jx S H H1) (b : Jx S H1 H2) : Jx S H H2 := Ex.trans a b
theorem Jx.new {S : List Addr} {p : Addr} {H : Hp} {o : HO} (h : H p = none) : Jx S H (L2.upd H p o) := Jx.of (Ex.new h)
/-- hiding more -/
theorem Jx.more {S T : List Addr} {H H' : Hp} (e : Jx S H H') (h : ∀ b, b ∈ S → b ∈ T) : Jx T H H' := fun b o q => by
  obtain ⟨h1, h2⟩ := hid_some q
  have := e b o (by rw [hid_ne fun z => h1 (h b z)]; exact h2)
  rw [hid_ne h1]
  exact (hid_some this).2
/-- what was not there need not be hidden -/
theorem Jx.less {S : List Addr} {l : Addr} {H H' : Hp} (e : Jx (l :: S) H H') (h : H l = none) : Jx S H H' := fun b o q => by
  obtain ⟨h1, h2⟩ := hid_some q
  have hb : b ∉ l :: S := fun z => by
    rcases List.mem_cons.mp z with rfl | z
    · rw [h] at h2; cases h2
    · exact h1 z
  have := e b o (by rw [hid_ne hb]; exact h2)
  rw [hid_ne h1]
  exact (hid_some this).2
theorem Jx.get {S : List Addr} {p : Addr} {H H' : Hp} {o : HO} (e : Jx S H H') (h : H p = some o) (hp : p ∉ S) : H' p = some o :=
  (hid_some (e p o (by rw [hid_ne hp]; exact h))).2
theorem Jx.dq {S : List Addr} {H H' : Hp} {v : V} {d : PyData} (e : Jx S H H') (h : Dq (hid S H) v d) : Dq (hid S H') v d := h.ex e
theorem Jx.dqa {S : List Addr} {H H' : Hp} {v : List V} {d : List PyData} (e : Jx S H H') (h : DqAll (hid S H) v d) : DqAll (hid S H') v d := h.ex e
theorem fresh_ne {H : Hp} {p q : Addr} {o : HO} (h : H q = some o) (hp : H p = none) : p ≠ q := fun z => by rw [z, h] at hp; cases hp
theorem nin1 {p j : Addr} (h : p ≠ j) : p ∉ [j] := by simp [h]
theorem nin2 {p l j : Addr} (h1 : p ≠ l) (h2 : p ≠ j) : p ∉ [l, j] := by simp [h1, h2]

end HX

namespace HX
open PySem PySem.Spec PyProof.Rows L2
open Evl (Ex)
/-! ### pieces of readings, to be applied one by one -/
section
variable {K : PySem.W.Frag} {H : Hp} {Q : VK} {j : Addr} {xs : List V} {i : Int} {v : V} {σ : L2.St}
theorem go_ixL (hj : Rd H j (.lst xs)) (hi : atI xs i = some v) (q : Q v H) : rIxL K (.ref j) (.int i) H Q := ⟨j, xs, i, v, rfl, rfl, .inl hj, hi, q⟩
theorem go_ixT (hj : Rd H j (.tup xs)) (hi : atI xs i = some v) (q : Q v H) : rIxT K (.ref j) (.int i) H Q := ⟨j, xs, i, v, rfl, rfl, .inl hj, hi, q⟩
theorem go_ixL' (hj : SqL K H j xs) (hi : atI xs i = some v) (q : Q v H) : rIxL K (.ref j) (.int i) H Q := ⟨j, xs, i, v, rfl, rfl, hj, hi, q⟩
theorem go_ixT' (hj : SqT K H j xs) (hi : atI xs i = some v) (q : Q v H) : rIxT K (.ref j) (.int i) H Q := ⟨j, xs, i, v, rfl, rfl, hj, hi, q⟩
theorem go_setL {n : Nat} {q : Hp → Prop} (hj : H j = some (.lst xs)) (hi : ixN xs.length i = some n) (k : q (upd H j (.lst (xs.set n v)))) : rSetL (.ref j) (.int i) v H q := ⟨j, xs, i, n, rfl, rfl, hj, hi, k⟩
/-- a value is handed on, told by what holds of it -/
theorem cut_e {te : TE} (R : V → Hp → Prop) (h : ∀ Q' : VK, (∀ v H', R v H' → Q' v H') → te σ H Q') (k : ∀ v H', R v H' → Q v H') : te σ H Q := h Q k
/-- a statement, then the rest -/
theorem cut_s {t u : TS} {D : Ends} (M : L2.St → Hp → Prop) (h : ∀ D' : Ends, D'.rt = D.rt → D'.bk = D.bk → D'.ct = D.ct → (∀ σ' H', M σ' H' → D'.nx σ' H') → t D' σ H) (k : ∀ σ' H', M σ' H' → u D σ' H') : tSeq t u D σ H :=
  h { D with nx := u D } rfl rfl rfl k
end
end HX

set_option Elab.async false
set_option linter.all false
set_option maxRecDepth 100000
namespace HX
open PySem PySem.Spec PyProof.Rows L2
open Evl (Ex)
/-! ### the connectives of readings, opened one by one -/
section
variable {K : PySem.W.Frag} {H : Hp} {Q : VK} {QA : List V → Hp → Prop} {QT : Bool → Hp → Prop} {QS : L2.St → Hp → Prop} {v x y : V} {σ : L2.St} {ta tb te tc : TE} {t u : TT} {tr : TA} {D : Ends} {t1 t2 : TS} {g : TG} {i j : Nat} {r r' : R2} {a b : Int} {c : Bool}
theorem go_var (h : σ[i]? = some (some v)) (q : Q v H) : tVar i σ H Q := ⟨v, h, q⟩
theorem go_c (q : Q v H) : tC v σ H Q := q
theorem go_op (h : ta σ H fun x H1 => tb σ H1 fun y H2 => r x y H2 Q) : tOp r ta tb σ H Q := h
theorem go_un {r : V → Hp → VK → Prop} (h : ta σ H fun x H1 => r x H1 Q) : tUn r ta σ H Q := h
theorem go_if (h : t σ H fun c H1 => if c = true then ta σ H1 Q else tb σ H1 Q) : tIf t ta tb σ H Q := h
theorem go_test (h : te σ H fun x H' => ∃ k, x = .bl k ∧ QT k H') : tTest te σ H QT := h
theorem go_B (h : te σ H fun x H1 => ∃ c, x = .bl c ∧ QT c H1) : tB te σ H QT := h
theorem go_bl (q : QT c H) : ∃ k, V.bl c = V.bl k ∧ QT k H := ⟨c, rfl, q⟩
theorem go_not (h : t σ H fun c H1 => QT (!c) H1) : tNot t σ H QT := h
theorem go_and (h : t σ H fun c H1 => if c = true then u σ H1 QT else QT false H1) : tAnd t u σ H QT := h
theorem go_or (h : t σ H fun c H1 => if c = true then QT true H1 else u σ H1 QT) : tOr t u σ H QT := h
theorem go_andV (h : ta σ H fun x H1 => ∃ c, x = .bl c ∧ if c = true then tb σ H1 Q else Q (.bl false) H1) : tAndV ta tb σ H Q := h
theorem go_orV (h : ta σ H fun x H1 => ∃ c, x = .bl c ∧ if c = true then Q (.bl true) H1 else tb σ H1 Q) : tOrV ta tb σ H Q := h
theorem go_notV (h : ta σ H fun x H1 => ∃ c, x = .bl c ∧ Q (.bl (!c)) H1) : tNotV ta σ H Q := h
theorem go_chain (h : ta σ H fun x H1 => tb σ H1 fun y H2 => r x y H2 fun z H3 => ∃ k, z = .bl k ∧ (if k = true then tc σ H3 fun w' H4 => r' y w' H4 Q else Q (.bl false) H3)) : tChain r r' ta tb tc σ H Q := h
theorem go_nil (q : QA [] H) : tNil σ H QA := q
theorem go_cons (h : ta σ H fun x H1 => tr σ H1 fun xs H2 => QA (x :: xs) H2) : tCons ta tr σ H QA := h
theorem go_cb {rc : List V → Hp → VK → Prop} (h : tr σ H fun vs H1 => rc vs H1 Q) : tCB rc tr σ H Q := h
theorem go_call {sp : Sp} {dvs : List V} {E : XK} (h : tr σ H fun vs H1 => sp (vs ++ dvs) H1 Q E) : tCall sp dvs E tr σ H Q := h
theorem go_tup (h : tr σ H fun xs H1 => xs.length ≤ sizeLine ∧ ∀ p, H1 p = none → Q (.ref p) (upd H1 p (.tup xs))) : tTup tr σ H Q := h
theorem go_lst (h : tr σ H fun xs H1 => xs.length ≤ sizeLine ∧ ∀ p, H1 p = none → Q (.ref p) (upd H1 p (.lst xs))) : tLst tr σ H Q := h
theorem go_asg (h : te σ H fun x H1 => g x σ H1 D.nx) : tAsg te g D σ H := h
theorem go_name (h : QS (σ.set i (some v)) H) : gName i v σ H QS := h
theorem go_sub {to ti : TE} {ts : TSet} (h : to σ H fun o H1 => ti σ H1 fun i H2 => ts o i v H2 fun H3 => QS σ H3) : gSub to ti ts v σ H QS := h
theorem go_seq (h : t1 { D with nx := t2 D } σ H) : tSeq t1 t2 D σ H := h
theorem go_ret (h : te σ H D.rt) : tRet te D σ H := h
theorem go_retN (h : D.rt .non H) : tRetN D σ H := h
theorem go_drop (h : te σ H fun _ H1 => D.nx σ H1) : tDrop te D σ H := h
theorem go_next (h : D.nx σ H) : tNext D σ H := h
theorem go_brk (h : D.bk σ H) : tBreak D σ H := h
theorem go_cont (h : D.ct σ H) : tCont D σ H := h
theorem go_ifS (h : t σ H fun b H1 => if b = true then t1 D σ H1 else t2 D σ H1) : tIfS t t1 t2 D σ H := h
theorem go_par (h : tr σ H fun vs H1 => ∃ v w, vs = [v, w] ∧ D.nx ((σ.set i (some v)).set j (some w)) H1) : tPar i j tr D σ H := h
theorem go_par2 {P : V → V → Prop} (h : P x y) : ∃ v w, [x, y] = [v, w] ∧ P v w := ⟨x, y, rfl, h⟩
theorem go_bm {T : String} {rb : V → List V → Hp → VK → Prop} (h : ta σ H fun x H1 => tyV K T x H1 ∧ tr σ H1 fun xs H2 => rb x xs H2 Q) : tBM K T rb ta tr σ H Q := h
theorem go_I0 {f : Int → Int → V} (q : Q (f a b) H) : rI0 f (.int a) (.int b) H Q := ⟨a, b, rfl, rfl, q⟩
theorem go_I {C : Int → Int → Prop} {f : Int → Int → V} (hc : C a b) (q : Q (f a b) H) : rI C f (.int a) (.int b) H Q := ⟨a, b, rfl, rfl, hc, q⟩
theorem go_U {f : Int → V} (q : Q (f a) H) : rU f (.int a) H Q := ⟨a, rfl, q⟩
theorem go_eq (h : scal x y = true) (q : Q (.bl (decide (x = y))) H) : rEq x y H Q := ⟨h, q⟩
theorem go_ne (h : scal x y = true) (q : Q (.bl (!decide (x = y))) H) : rNe x y H Q := ⟨h, q⟩
theorem go_isN (q : Q (.bl (decide (x = .non))) H) : rIsN x .non H Q := ⟨rfl, q⟩
theorem go_notN (q : Q (.bl (!decide (x = .non))) H) : rNotN x .non H Q := ⟨rfl, q⟩
theorem go_app {l : Addr} {xs : List V} (h : H l = some (.lst xs)) (hz : xs.length < sizeLine) (q : Q .non (upd H l (.lst (xs ++ [y])))) : rAppend (.ref l) [y] H Q := ⟨l, xs, y, rfl, rfl, h, hz, q⟩
theorem go_tyL {l : Addr} {xs : List V} (h : H l = some (.lst xs)) {P : Prop} (q : P) : tyV K "list" (.ref l) H ∧ P := ⟨.inl ⟨rfl, _, SqL.of h⟩, q⟩
theorem go_cat {l m : Addr} {xs zs : List V} (h1 : H l = some (.lst xs)) (h2 : H m = some (.lst zs)) (hz : xs.length + zs.length ≤ sizeLine) (q : ∀ p, H p = none → Q (.ref p) (upd H p (.lst (xs ++ zs)))) : rCat (.ref l) (.ref m) H Q :=
  ⟨l, m, xs, zs, rfl, rfl, h1, h2, hz, q⟩
theorem go_rep {l : Addr} {xs : List V} {k : Int} (h1 : H l = some (.lst xs)) (h2 : -(2 ^ 63) ≤ k ∧ k < 2 ^ 63) (hz : xs.length * k.toNat ≤ sizeLine) (q : ∀ p, H p = none → Q (.ref p) (upd H p (.lst (List.replicate k.toNat xs).flatten))) : rRep (.ref l) (.int k) H Q :=
  ⟨l, k, xs, rfl, rfl, h1, h2.1, h2.2, hz, q⟩
end
/-! ### built-ins by name -/
def rLenQ (K : PySem.W.Frag) : List V → Hp → VK → Prop := fun xs H Q => ∃ p ys, xs = [.ref p] ∧ (SqL K H p ys ∨ SqT K H p ys) ∧ Q (.int ys.length) H
def rAbsQ : List V → Hp → VK → Prop := fun xs H Q => ∃ i, xs = [.int i] ∧ Q (.int (if i < 0 then -i else i)) H
def rMaxQ : List V → Hp → VK → Prop := fun xs H Q => ∃ i j, xs = [.int i, .int j] ∧ Q (.int (if j > i then j else i)) H
def rMinQ : List V → Hp → VK → Prop := fun xs H Q => ∃ i j, xs = [.int i, .int j] ∧ Q (.int (if j < i then j else i)) H
def rIntQ : List V → Hp → VK → Prop := fun xs H Q => (∃ i, xs = [.int i] ∧ Q (.int i) H) ∨ ∃ k, xs = [.bl k] ∧ Q (.int (if k then 1 else 0)) H
section
variable {X : Cx}
theorem call_lenQ : CallR X (.builtin "len") (rLenQ X.K) := call_len_seq
theorem call_absQ : CallR X (.builtin "abs") rAbsQ := call_abs
theorem call_maxQ (hc : X.calm = true) : CallR X (.builtin "max") rMaxQ := call_max2 hc
theorem call_minQ (hc : X.calm = true) : CallR X (.builtin "min") rMinQ := call_min2 hc
theorem call_intQ : CallR X (.type "int") rIntQ := call_int1
end
section
variable {K : PySem.W.Frag} {H : Hp} {Q : VK} {p : Addr} {ys : List V} {i j : Int} {b : Bool}
theorem go_lenL (h : Rd H p (.lst ys)) (k : Q (.int ys.length) H) : rLenQ K [.ref p] H Q := ⟨p, ys, rfl, .inl (.inl h), k⟩
theorem go_lenT (h : Rd H p (.tup ys)) (k : Q (.int ys.length) H) : rLenQ K [.ref p] H Q := ⟨p, ys, rfl, .inr (.inl h), k⟩
theorem go_lenS (h : SqL K H p ys) (k : Q (.int ys.length) H) : rLenQ K [.ref p] H Q := ⟨p, ys, rfl, .inl h, k⟩
theorem go_abs (k : Q (.int (if i < 0 then -i else i)) H) : rAbsQ [.int i] H Q := ⟨i, rfl, k⟩
theorem go_max (k : Q (.int (if j > i then j else i)) H) : rMaxQ [.int i, .int j] H Q := ⟨i, j, rfl, k⟩
theorem go_min (k : Q (.int (if j < i then j else i)) H) : rMinQ [.int i, .int j] H Q := ⟨i, j, rfl, k⟩
theorem go_int (k : Q (.int i) H) : rIntQ [.int i] H Q := .inl ⟨i, rfl, k⟩
theorem go_intB (k : Q (.int (if b then 1 else 0)) H) : rIntQ [.bl b] H Q := .inr ⟨b, rfl, k⟩
end
/-- a slot is read -/
theorem wide1 {b : Int} (h0 : 0 < b) (h : b < 2 ^ 400) {a : Int} : CDivW a b := wide_div (b := 400) h0 (by omega) (by decide) (by decide)
end HX
namespace HX
open PySem L2
theorem go_new {n : Nat} {R : Prop} (h : n ≤ sizeLine) (k : R) : n ≤ sizeLine ∧ R := ⟨h, k⟩
end HX
namespace HX
open PySem PySem.Spec PyProof.Rows L2
open Evl (Ex)
/-! ### loops -/
section
variable {K : PySem.W.Frag} {H : Hp} {Q : VK} {σ : L2.St} {ta : TA} {tl te : TE} {tt : TT} {D : Ends} {tb : TS} {g : TG} {lo : Int} {n : Nat} {a : Addr} {xs : List V} {vs : List Nat}
def forR (lo : Int) (n : Nat) (g : TG) (tb : TS) : TS := tFor (fun _ H R => R (Itr lo n) H) g tb
def forL (K : PySem.W.Frag) (a : Addr) (g : TG) (tb : TS) : TS := tFor (fun _ H R => R (Itl K a) H) g tb
def forT (K : PySem.W.Frag) (a : Addr) (g : TG) (tb : TS) : TS := tFor (fun _ H R => R (Itt K a) H) g tb
def forE (K : PySem.W.Frag) (a : Addr) (g : TG) (tb : TS) : TS := tFor (fun _ H R => R (Ite K a) H) g tb
theorem go_forR1 (h : ta σ H fun vs H1 => ∃ j : Int, vs = [.int j] ∧ -(2 ^ 62) ≤ j ∧ j < 2 ^ 62 ∧ forR 0 j.toNat g tb D σ H1) : tFor (iRng1 ta) g tb D σ H := h
theorem go_forR2 (h : ta σ H fun vs H1 => ∃ i j : Int, vs = [.int i, .int j] ∧ (-(2 ^ 62) ≤ i ∧ i < 2 ^ 62 ∧ -(2 ^ 62) ≤ j ∧ j < 2 ^ 62) ∧ forR i (j - i).toNat g tb D σ H1) : tFor (iRng2 ta) g tb D σ H := h
theorem go_forL (h : tl σ H fun x H1 => ∃ a, x = .ref a ∧ (∃ xs, SqL K H1 a xs) ∧ forL K a g tb D σ H1) : tFor (iList K tl) g tb D σ H := h
theorem go_forT (h : tl σ H fun x H1 => ∃ a, x = .ref a ∧ (∃ xs, SqT K H1 a xs) ∧ forT K a g tb D σ H1) : tFor (iTup K tl) g tb D σ H := h
theorem go_forE (h : ta σ H fun vs H1 => ∃ a xs, vs = [.ref a] ∧ SqL K H1 a xs ∧ forE K a g tb D σ H1) : tFor (iEnum K ta) g tb D σ H := h
theorem run_forR (Pv : Nat → L2.St → Hp → Prop) (h0 : Pv 0 σ H)
    (hs : ∀ i σ H, i < n → Pv i σ H → g (.int (lo + i)) σ H fun σ2 H2 => tb { D with nx := Pv (i + 1), ct := Pv (i + 1), bk := D.nx } σ2 H2) (hd : ∀ σ H, Pv n σ H → D.nx σ H) : forR lo n g tb D σ H := for_range Pv h0 hs hd
theorem run_forL (xs : List V) (Pv : Nat → L2.St → Hp → Prop) (h0 : Pv 0 σ H) (hl : ∀ i σ H, i ≤ xs.length → Pv i σ H → SqL K H a xs)
    (hs : ∀ i x σ H, xs[i]? = some x → Pv i σ H → g x σ H fun σ2 H2 => tb { D with nx := Pv (i + 1), ct := Pv (i + 1), bk := D.nx } σ2 H2) (hd : ∀ σ H, Pv xs.length σ H → D.nx σ H) : forL K a g tb D σ H := for_list Pv h0 hl hs hd
theorem run_forT (xs : List V) (Pv : Nat → L2.St → Hp → Prop) (h0 : Pv 0 σ H) (hl : ∀ i σ H, i ≤ xs.length → Pv i σ H → SqT K H a xs)
    (hs : ∀ i x σ H, xs[i]? = some x → Pv i σ H → g x σ H fun σ2 H2 => tb { D with nx := Pv (i + 1), ct := Pv (i + 1), bk := D.nx } σ2 H2) (hd : ∀ σ H, Pv xs.length σ H → D.nx σ H) : forT K a g tb D σ H := for_tup Pv h0 hl hs hd
/-- comprehensions -/
def lcR (lo : Int) (n : Nat) (g : TG) (tt : TT) (te : TE) (vs : List Nat) : TE := tLc (fun _ H R => R (Itr lo n) H) g tt te vs
def lcL (K : PySem.W.Frag) (a : Addr) (g : TG) (tt : TT) (te : TE) (vs : List Nat) : TE := tLc (fun _ H R => R (Itl K a) H) g tt te vs
def lcT (K : PySem.W.Frag) (a : Addr) (g : TG) (tt : TT) (te : TE) (vs : List Nat) : TE := tLc (fun _ H R => R (Itt K a) H) g tt te vs
theorem go_lcR1 (h : ta σ H fun us H1 => ∃ j : Int, us = [.int j] ∧ -(2 ^ 62) ≤ j ∧ j < 2 ^ 62 ∧ lcR 0 j.toNat g tt te vs σ H1 Q) : tLc (iRng1 ta) g tt te vs σ H Q := h
theorem go_lcL (h : tl σ H fun x H1 => ∃ a, x = .ref a ∧ (∃ xs, SqL K H1 a xs) ∧ lcL K a g tt te vs σ H1 Q) : tLc (iList K tl) g tt te vs σ H Q := h
theorem go_lcT (h : tl σ H fun x H1 => ∃ a, x = .ref a ∧ (∃ xs, SqT K H1 a xs) ∧ lcT K a g tt te vs σ H1 Q) : tLc (iTup K tl) g tt te vs σ H Q := h
/-- acc at D so far: Pv i acc H; what a turn appends -/
theorem run_lcR (Pv : Addr → Nat → Hp → Prop) (h0 : ∀ D, H D = none → Pv D 0 (upd H D (.lst [])))
    (hs : ∀ D i H, i < n → Pv D i H → g (.int (lo + i)) (wipe σ vs) H fun σ2 H2 => wipe σ2 vs = wipe σ vs ∧ tt σ2 H2 fun b H3 =>
      if b = true then te σ2 H3 fun y H4 => ∃ acc, H4 D = some (.lst acc) ∧ acc.length < sizeLine ∧ Pv D (i + 1) (upd H4 D (.lst (acc ++ [y]))) else Pv D (i + 1) H3) (hd : ∀ D H', H D = none → Pv D n H' → Q (.ref D) H') : lcR lo n g tt te vs σ H Q :=
  fun D hD => lc_range (Pv D) (h0 D hD) (hs D) fun H' p => hd D H' hD p
theorem run_lcL (xs : List V) (Pv : Addr → Nat → Hp → Prop) (h0 : ∀ D, H D = none → Pv D 0 (upd H D (.lst []))) (hl : ∀ D i H, i ≤ xs.length → Pv D i H → SqL K H a xs)
    (hs : ∀ D i x H, xs[i]? = some x → Pv D i H → g x (wipe σ vs) H fun σ2 H2 => wipe σ2 vs = wipe σ vs ∧ tt σ2 H2 fun b H3 =>
      if b = true then te σ2 H3 fun y H4 => ∃ acc, H4 D = some (.lst acc) ∧ acc.length < sizeLine ∧ Pv D (i + 1) (upd H4 D (.lst (acc ++ [y]))) else Pv D (i + 1) H3) (hd : ∀ D H', H D = none → Pv D xs.length H' → Q (.ref D) H') : lcL K a g tt te vs σ H Q :=
  fun D hD => lc_list (Pv D) (h0 D hD) (hl D) (hs D) fun H' p => hd D H' hD p
theorem run_lcT (xs : List V) (Pv : Addr → Nat → Hp → Prop) (h0 : ∀ D, H D = none → Pv D 0 (upd H D (.lst []))) (hl : ∀ D i H, i ≤ xs.length → Pv D i H → SqT K H a xs)
    (hs : ∀ D i x H, xs[i]? = some x → Pv D i H → g x (wipe σ vs) H fun σ2 H2 => wipe σ2 vs = wipe σ vs ∧ tt σ2 H2 fun b H3 =>
      if b = true then te σ2 H3 fun y H4 => ∃ acc, H4 D = some (.lst acc) ∧ acc.length < sizeLine ∧ Pv D (i + 1) (upd H4 D (.lst (acc ++ [y]))) else Pv D (i + 1) H3) (hd : ∀ D H', H D = none → Pv D xs.length H' → Q (.ref D) H') : lcT K a g tt te vs σ H Q :=
  fun D hD => lc_tup (Pv D) (h0 D hD) (hl D) (hs D) fun H' p => hd D H' hD p
end
end HX
namespace HX
open PySem PySem.Spec PyProof.Rows L2
theorem cut_t {tt : TT} {σ : L2.St} {H : Hp} {Q : Bool → Hp → Prop} (R : Bool → Hp → Prop) (h : ∀ Q' : Bool → Hp → Prop, (∀ b H', R b H' → Q' b H') → tt σ H Q') (k : ∀ b H', R b H' → Q b H') : tt σ H Q := h Q k
theorem go_neD {K : PySem.W.Frag} {H : Hp} {Q : VK} {x y : V} {d e : PyData} (h1 : Dq H x d) (h2 : Dq H y e) (s1 : SeqAt.shaped d = true) (s2 : SeqAt.shaped e = true) (q : Q (.bl (!PyData.eqv d e)) H) : rNeD K x y H Q :=
  ⟨d, e, h1.dp (PyData.hasDict_of_canLay d (SeqAt.canLay_of_shaped s1)), h2.dp (PyData.hasDict_of_canLay e (SeqAt.canLay_of_shaped s2)), s1, s2, q⟩
theorem go_eqD {K : PySem.W.Frag} {H : Hp} {Q : VK} {x y : V} {d e : PyData} (h1 : Dq H x d) (h2 : Dq H y e) (s1 : SeqAt.shaped d = true) (s2 : SeqAt.shaped e = true) (q : Q (.bl (PyData.eqv d e)) H) : rEqD K x y H Q :=
  ⟨d, e, h1.dp (PyData.hasDict_of_canLay d (SeqAt.canLay_of_shaped s1)), h2.dp (PyData.hasDict_of_canLay e (SeqAt.canLay_of_shaped s2)), s1, s2, q⟩
end HX
namespace HX
open PySem PySem.Spec PyProof.Rows L2
section
variable {K : PySem.W.Frag} {H : Hp} {Q : VK} {σ : L2.St} {te : TE} {tl th : TO} {QO : Option Int → Hp → Prop} {a : Addr} {xs : List V} {i : Int} {lo hi : Option Int}
theorem go_sl {r : V → Option Int → Option Int → Hp → VK → Prop} (h : te σ H fun x H1 => tl σ H1 fun l H2 => th σ H2 fun u H3 => r x l u H3 Q) : tSl r te tl th σ H Q := h
theorem go_part (h : te σ H fun x H1 => ∃ i, x = .int i ∧ QO (some i) H1) : tPart te σ H QO := h
theorem go_pint {Q : Int → Prop} (h : Q i) : ∃ j, V.int i = V.int j ∧ Q j := ⟨i, rfl, h⟩
theorem go_nopart (h : QO none H) : tNoPart σ H QO := h
theorem go_slT (h : Rd H a (.tup xs)) (hn : ¬ (HT.sIx xs.length 0 lo = 0 ∧ HT.sIx xs.length xs.length hi = xs.length)) (k : ∀ p, H p = none → Q (.ref p) (upd H p (.tup (cutV xs lo hi)))) : rSlT K (.ref a) lo hi H Q := ⟨a, xs, rfl, .inl h, hn, k⟩
theorem go_slL (h : Rd H a (.lst xs)) (k : ∀ p, H p = none → Q (.ref p) (upd H p (.lst (cutV xs lo hi)))) : rSlL K (.ref a) lo hi H Q := ⟨a, xs, rfl, .inl h, k⟩
theorem cut_tail (x : V) (l : List V) : cutV (x :: l) (some 1) none = l ∧ ¬ (HT.sIx (x :: l).length 0 (some 1) = 0 ∧ HT.sIx (x :: l).length (x :: l).length none = (x :: l).length) := by
  have e1 : HT.sIx (x :: l).length 0 (some 1) = 1 := by
    simp [HT.sIx]
  have e2 : HT.sIx (x :: l).length (x :: l).length none = l.length + 1 := by
    simp [HT.sIx]
  refine ⟨?_, by rw [e1]; simp⟩
  unfold cutV
  rw [e1, e2]
  simp
end
end HX
namespace HX
open PySem PySem.Spec PyProof.Rows L2
theorem run_forE {K : PySem.W.Frag} {a : Addr} {g : TG} {tb : TS} {D : Ends} {σ : L2.St} {H : Hp} (xs : List V) (Pv : Nat → L2.St → Hp → Prop) (h0 : Pv 0 σ H) (hl : ∀ i σ H, i ≤ xs.length → Pv i σ H → SqL K H a xs)
    (hs : ∀ i x σ H T, xs[i]? = some x → Pv i σ H → H T = none → g (.ref T) σ (upd H T (.tup [.int (i : Nat), x])) fun σ2 H2 => tb { D with nx := Pv (i + 1), ct := Pv (i + 1), bk := D.nx } σ2 H2)
    (hd : ∀ σ H, Pv xs.length σ H → D.nx σ H) : forE K a g tb D σ H := by
  refine ⟨fun i m σ H => m = xs.length - i ∧ i ≤ xs.length ∧ Pv i σ H, ⟨xs.length, by simp, Nat.zero_le _, h0⟩, ?_⟩
  rintro i m σ H ⟨rfl, hi, p⟩
  have q := hl i σ H hi p
  rcases Nat.lt_or_ge i xs.length with hlt | hge
  · refine .inr ⟨⟨xs, xs[i], q, by simp [hlt]⟩, Pv (i + 1), fun σ' H' p' => ⟨xs.length - (i + 1), by omega, rfl, hlt, p'⟩, ?_⟩
    rintro v H' ⟨T, x, rfl, hT, rfl, y⟩
    exact hs i x σ H T (y xs q) p hT
  · obtain rfl : i = xs.length := by omega
    exact .inl ⟨⟨xs, q, Nat.le_refl _⟩, hd σ H p⟩
end HX

set_option Elab.async false
set_option linter.all false
set_option maxRecDepth 100000
set_option maxHeartbeats 1000000

namespace Kx
open PySem PySem.Spec PyProof.Rows L2 HX
open Evl (Ex)
def top (i : Nat) : Stmt := PySem.Challenge.pw_imagetones_k04_slopes_signal_by_signal.main.body.getD i (.Pass ⟨0, 0, 0, 0⟩)
/-- the jar: what is left of a cell, a seed, how many draws were mixed (n at most) -/
def JarAt (n : Nat) (H : Hp) (j : Addr) : Prop := ∃ a b c : Int, H j = some (.lst [.int a, .int b, .int c]) ∧ 0 ≤ b ∧ b < 2 ^ 95 ∧ 0 ≤ c ∧ c ≤ n
theorem JarAt.mono {n m : Nat} {H : Hp} {j : Addr} (h : JarAt n H j) (e : n ≤ m) : JarAt m H j := by
  obtain ⟨a, b, c, h1, h2, h3, h4, h5⟩ := h
  exact ⟨a, b, c, h1, h2, h3, h4, by omega⟩
def spJar (K : PySem.W.Frag) : Sp := fun vs H Q _ => ∃ (a : Addr) (ns : List Int) (i : Nat), vs = [.ref a, .int i] ∧ SqL K H a (ns.map V.int) ∧ i < 1000 ∧ ∀ j H', H j = none → Ex H H' → JarAt 0 H' j → Q (.ref j) H'
def spPick : Sp := fun vs H Q _ => ∃ (j : Addr) (bound : Int) (n : Nat), vs = [.ref j, .int bound] ∧ JarAt n H j ∧ n < 2 ^ 50 ∧ 0 < bound ∧ bound < 2 ^ 400 ∧
  ∀ (r : Int) (H' : Hp), 0 ≤ r → r < bound → JarAt (n + 1) H' j → Jx [j] H H' → Q (.int r) H'
local macro_rules | `(tactic| walk_at "side") => `(tactic| first | assumption | ((try dsimp only); first | assumption | decide +kernel | omega | exact ⟨by decide, by decide⟩ | (left; decide) | (left; omega) | (refine Or.inl ⟨?_, ?_⟩ <;> omega) | (refine Or.inr ⟨?_, ?_⟩ <;> omega)))
local macro_rules | `(tactic| walk_at "heap") => `(tactic| first | assumption | exact upd_same | exact Or.inl (by assumption) | exact Or.inl upd_same)
local macro_rules | `(tactic| walk_at "item") => `(tactic| first | exact rfl | exact atI_nat (j := 0) rfl | exact atI_nat (j := 1) rfl | exact atI_nat (j := 2) rfl | assumption)
local macro_rules | `(tactic| walk_at "rd") => `(tactic| repeat (first
  | ((with_reducible refine' go_var ?hv ?_); (case hv => exact rfl))
  | with_reducible refine' go_c ?_
  | with_reducible refine' go_op ?_
  | with_reducible refine' go_seq ?_
  | with_reducible refine' go_asg ?_
  | with_reducible refine' go_name ?_
  | with_reducible refine' go_cons ?_
  | with_reducible refine' go_nil ?_
  | with_reducible refine' go_cb ?_
  | with_reducible refine' go_call ?_
  | with_reducible refine' go_ifS ?_
  | with_reducible refine' go_test ?_
  | with_reducible refine' go_bl ?_
  | with_reducible refine' go_ret ?_
  | with_reducible refine' go_I0 ?_
  | ((with_reducible refine' go_I ?cc ?_); (case cc => walk_at "side"))
  | ((with_reducible refine' go_ixL ?hh ?hk ?_); (case hh => walk_at "heap"); (case hk => walk_at "item"))
  | ((with_reducible refine' go_ixT ?hh ?hk ?_); (case hh => walk_at "heap"); (case hk => walk_at "item"))
  | ((with_reducible refine' go_lenL ?hh ?_); (case hh => walk_at "heap"))
  | ((with_reducible refine' go_lenT ?hh ?_); (case hh => walk_at "heap"))
  | ((with_reducible refine' go_setL ?hh ?hk ?_); (case hh => walk_at "heap"); (case hk => walk_at "item"))
  | with_reducible refine' go_abs ?_
  | with_reducible refine' go_max ?_
  | with_reducible refine' go_min ?_
  | with_reducible refine' go_int ?_
  | with_reducible refine' go_intB ?_
  | (with_reducible refine' go_eq rfl ?_)
  | (with_reducible refine' go_ne rfl ?_)
  | with_reducible refine' go_isN ?_
  | with_reducible refine' go_notN ?_
  | with_reducible refine' go_if ?_
  | with_reducible refine' go_sub ?_
  | with_reducible refine' go_par ?_
  | with_reducible refine' go_sl ?_
  | with_reducible refine' go_part ?_
  | with_reducible refine' go_pint ?_
  | with_reducible refine' go_nopart ?_
  | ((with_reducible refine' go_lenL ?hh ?_); (case hh => walk_at "heap"))
  | ((with_reducible refine' go_lenT ?hh ?_); (case hh => walk_at "heap"))
  | ((with_reducible refine' go_lenS ?hh ?_); (case hh => assumption))
  | with_reducible refine' go_gcons ?_
  | with_reducible refine' go_gnil ?_
  | with_reducible refine' go_kw ?_
  | with_reducible refine' go_par2 ?_
  | with_reducible refine' go_next ?_
  | with_reducible refine' go_drop ?_
  | with_reducible refine' go_and ?_
  | with_reducible refine' go_or ?_
  | with_reducible refine' go_not ?_
  | with_reducible refine' go_B ?_
  | with_reducible refine' go_andV ?_
  | with_reducible refine' go_orV ?_
  | with_reducible refine' go_notV ?_
  | with_reducible refine' go_chain ?_
  | with_reducible refine' go_un ?_
  | with_reducible refine' go_U ?_
  | with_reducible refine' go_bm ?_
  | with_reducible refine' go_tup ?_
  | with_reducible refine' go_lst ?_
  | with_reducible refine' go_forR1 ?_
  | with_reducible refine' go_forR2 ?_
  | with_reducible refine' go_forL ?_
  | with_reducible refine' go_forT ?_
  | with_reducible refine' go_forE ?_
  | with_reducible refine' go_lcR1 ?_
  | with_reducible refine' go_lcL ?_
  | with_reducible refine' go_lcT ?_
  | ((with_reducible refine' go_tyL ?hh ?_); (case hh => walk_at "heap"))
  | ((with_reducible refine' go_new ?hz ?_); (case hz => exact Nat.le_of_ble_eq_true rfl))
  | (with_reducible refine' ⟨_, rfl, ?_⟩)
  ))
--MACEND
section
variable {P : Program} {w : World} {K : PySem.W.Frag} {mg : Str → Option Value} {base : Heap}
abbrev s__law_jar : Stmt := top 45
theorem sc__law_jar : FnScope ["script", "at", "cell"] ["script", "at"] (defScope s__law_jar) := ⟨rfl, rfl, rfl, by decide +kernel, rfl, by decide +kernel, by decide +kernel⟩
theorem ok_jar {f : Addr} {fd : FuncData} (F : Fun K "_law_jar" "_law_jar" s__law_jar f fd) (m_len : mg "len" = none) (m_max : mg "max" = none) (m_abs : mg "abs" = none) (m_int : mg "int" = none) :
    FnOk P w K mg base CX0 1 f fd ["script", "at"] (spJar K) := by
  refine F.ok sc__law_jar (fun vs H Q E h => ?_) (fun cdv A outer s H vs Q E hr h => ?_)
  · obtain ⟨a, ns, i, rfl, _⟩ := h
    rfl
  · obtain ⟨a, ns, i, rfl, hS, hi, k⟩ := h
    refine ⟨_, (pss_cons (ps_set (i := 2) sc__law_jar.nd rfl (Or.inl rfl) (pe_ifExp (pt_cmpR op_lt (pv 1) (pe_callB call_lenQ rfl m_len PySem.boot_len (pa_cons (pv 0) pa_nil)) (nomark _)) (pe_ix ix_list (pv 0) (pv 1) (fun _ _ => rfl)) pe_int))
  (pss_one (ps_ret (pe_lst (pa_cons (pe_callB (call_maxQ rfl) rfl m_max boot_max (pa_cons pe_int (pa_cons (pe_op op_add (pe_op op_sub (pe_callB call_absQ rfl m_abs (by decide +kernel) (pa_cons (pv 2) pa_nil)) (pe_op op_powW pe_int pe_int)) pe_int) pa_nil))) (pa_cons (pe_op op_add (pe_op op_mod (pe_callTy call_intQ rfl m_int boot_int (pa_cons (pv 2) pa_nil)) (pe_op op_add (pe_op op_powW pe_int pe_int) pe_int)) (pe_op op_mul pe_int (pe_op op_add (pv 1) pe_int))) (pa_cons pe_int pa_nil))))))), ?_⟩
    refine cut_e (te := tIf _ _ _) (fun v H' => ∃ cell : Int, v = .int cell ∧ H' = H) (fun Q' q => ?_) ?_
    · refine ⟨_, rfl, _, rfl, a, _, rfl, .inl hS, _, _, rfl, rfl, _, rfl, ite2 (fun h => ?_) (fun h => q _ _ ⟨_, rfl, rfl⟩)⟩
      have hlt : i < ns.length := by simpa using h
      refine ⟨_, rfl, _, rfl, _, _, _, V.int ns[i], rfl, rfl, hS, atI_nat (by simp [hlt]), q _ _ ⟨_, rfl, rfl⟩⟩
    · rintro v H' ⟨cell, rfl, rfl⟩
      have c18 : CPowW 10 18 := wide_pow (b := 4) (by decide) (by decide) (by decide)
      have c27 : CPowW 10 27 := wide_pow (b := 4) (by decide) (by decide) (by decide)
      walk_at "rd"
      intro p hp
      have e27 : (10 : Int) ^ (27 : Int).toNat + 103 = 1000000000000000000000000103 := by decide +kernel
      refine k _ _ hp (Ex.new hp) ⟨_, _, _, upd_same, ?_, ?_, by decide, by decide⟩
      · rw [e27]; omega
      · rw [e27]; omega
abbrev s__law_pick : Stmt := top 46
theorem sc__law_pick : FnScope ["jar", "bound", "drawn", "mixed"] ["jar", "bound"] (defScope s__law_pick) := ⟨rfl, rfl, rfl, by decide +kernel, rfl, by decide +kernel, by decide +kernel⟩
theorem ok_pick {f : Addr} {fd : FuncData} (F : Fun K "_law_pick" "_law_pick" s__law_pick f fd) (m_int : mg "int" = none) :
    FnOk P w K mg base CX0 1 f fd ["jar", "bound"] spPick := by
  refine F.ok sc__law_pick (fun vs H Q E h => ?_) (fun cdv A outer s H vs Q E hr h => ?_)
  · obtain ⟨j, bound, n, rfl, _⟩ := h
    rfl
  · obtain ⟨j, bound, n, rfl, ⟨a, b, c, hj, b0, b1, c0, c1⟩, hn, hb0, hb1, k⟩ := h
    refine ⟨_, (pss_cons (ps_if (pt_cmpR op_gt (pe_ix ix_list (pv 0) pe_int (fun _ _ => rfl)) pe_int (nomark _))
  (pss_cons (ps_set (i := 2) sc__law_pick.nd rfl (Or.inl rfl) (pe_op op_mod (pe_callTy call_intQ rfl m_int boot_int (pa_cons (pe_ix ix_list (pv 0) pe_int (fun _ _ => rfl)) pa_nil)) (pv 1)))
  (pss_cons (ps_asg (pe_op op_fdivW (pe_ix ix_list (pv 0) pe_int (fun _ _ => rfl)) (pv 1)) (pg_sub (pv 0) pe_int set_list))
  (pss_one (ps_ret (pv 2)))))
  pss_nil)
  (pss_cons (ps_asg (pe_op op_add (pe_ix ix_list (pv 0) pe_int (fun _ _ => rfl)) pe_int) (pg_sub (pv 0) pe_int set_list))
  (pss_cons (ps_set (i := 3) sc__law_pick.nd rfl (Or.inl rfl) (pe_op op_mod (pe_callTy call_intQ rfl m_int boot_int (pa_cons (pe_op op_powW (pe_op op_add (pe_ix ix_list (pv 0) pe_int (fun _ _ => rfl)) (pe_op op_mul pe_int (pe_ix ix_list (pv 0) pe_int (fun _ _ => rfl)))) pe_int) pa_nil)) (pe_op op_add (pe_op op_powW pe_int pe_int) pe_int)))
  (pss_cons (ps_set (i := 3) sc__law_pick.nd rfl (Or.inl rfl) (pe_op op_mod (pe_callTy call_intQ rfl m_int boot_int (pa_cons (pe_op op_powW (pe_op op_add (pv 3) (pe_op op_mul pe_int (pe_ix ix_list (pv 0) pe_int (fun _ _ => rfl)))) pe_int) pa_nil)) (pe_op op_add (pe_op op_powW pe_int pe_int) pe_int)))
  (pss_one (ps_ret (pe_op op_mod (pe_callTy call_intQ rfl m_int boot_int (pa_cons (pe_op op_fdiv (pv 3) pe_int) pa_nil)) (pv 1)))))))), ?_⟩
    have e39 : (10 : Int) ^ (39 : Int).toNat + 3 = 1000000000000000000000000000000000000003 := by decide +kernel
    have e42 : (10 : Int) ^ (42 : Int).toNat + 63 = 1000000000000000000000000000000000000000063 := by decide +kernel
    have p39 : CPowW 10 39 := wide_pow (b := 4) (by decide) (by decide) (by decide)
    have p42 : CPowW 10 42 := wide_pow (b := 4) (by decide) (by decide) (by decide)
    walk_at "rd"
    refine ite2 (fun h => ?_) (fun h => ?_)
    · -- the digits of the cell
      have ha : 0 < a := by simpa using h
      have hd : CDivW a bound := wide_div (b := 400) hb0 (by omega) (by decide) (by decide)
      walk_at "rd"
      exact k _ _ (Int.emod_nonneg _ (by omega)) (Int.emod_lt_of_pos _ hb0) ⟨_, b, c, upd_same, b0, b1, c0, by omega⟩ (Jx.upd (by simp))
    · have m39 : ∀ z : Int, 0 ≤ z % 1000000000000000000000000000000000000003 ∧ z % 1000000000000000000000000000000000000003 < 1000000000000000000000000000000000000003 := fun z => by omega
      have q1 : CPowW (b + 611953 * (c + 1)) 3 := wide_pow (b := 200) (by omega) (by decide) (by decide)
      have q2 : ∀ z : Int, CPowW (z % (10 ^ (39 : Int).toNat + 3) + 86028121 * (c + 1)) 3 := fun z => wide_pow (b := 200) (by rw [e39]; omega) (by decide) (by decide)
      walk_at "rd"
      refine go_I (q2 _) ?_
      walk_at "rd"
      refine k _ _ (Int.emod_nonneg _ (by omega)) (Int.emod_lt_of_pos _ hb0) ⟨a, b, c + 1, upd_same, b0, b1, by omega, by omega⟩ (Jx.upd (by simp))
end
end Kx

set_option Elab.async false
set_option linter.all false
set_option maxRecDepth 100000
set_option maxHeartbeats 2000000

namespace Kx
open PySem PySem.Spec PyProof.Rows L2 HX
open Evl (Ex)
/-! ### receivers as data -/
inductive Stg where
  | mix (lo : Int) | dial (add : Int) | pass (lo hi : Int)
def Stg.d : Stg → PyData
  | .mix lo => .tuple [.str "mix", .int lo]
  | .dial a => .tuple [.str "dial", .int a]
  | .pass lo hi => .tuple [.str "pass", .int lo, .int hi]
def Stg.ok (b : Int) : Stg → Prop
  | .mix lo => 0 ≤ lo ∧ lo ≤ b
  | .dial a => -b ≤ a ∧ a ≤ b
  | .pass lo hi => 0 ≤ lo ∧ lo ≤ hi ∧ hi ≤ b
def Stg.isDial : Stg → Bool
  | .dial _ => true
  | _ => false
def dials (ss : List Stg) : Nat := (ss.filter Stg.isDial).length
def rateD : Option Int → PyData
  | none => .none
  | some r => .int r
structure Rad (b : Int) (ss : List Stg) (rate : Option Int) : Prop where
  ne : ss ≠ []
  le : ss.length ≤ 8
  ok : ∀ s ∈ ss, s.ok b
  one : dials ss ≤ 1
  rate : ∀ r, rate = some r → 2 ≤ r ∧ r ≤ b
def radD (ss : List Stg) (rate : Option Int) : PyData := .tuple [.list (ss.map Stg.d), rateD rate]
/-- a stage's tuple at a -/
theorem stg_at {H : Hp} {v : V} {s : Stg} (h : Dq H v s.d) : ∃ a, v = .ref a ∧ match s with
    | .mix lo => Rd H a (.tup [.str "mix", .int lo])
    | .dial x => Rd H a (.tup [.str "dial", .int x])
    | .pass lo hi => Rd H a (.tup [.str "pass", .int lo, .int hi]) := by
  cases s with
  | mix lo => cases h with | tup h1 h2 => cases h2 with | cons q1 q2 => cases q1; cases q2 with | cons q3 q4 => cases q3; cases q4; exact ⟨_, rfl, h1⟩
  | dial lo => cases h with | tup h1 h2 => cases h2 with | cons q1 q2 => cases q1; cases q2 with | cons q3 q4 => cases q3; cases q4; exact ⟨_, rfl, h1⟩
  | pass lo hi => cases h with | tup h1 h2 => cases h2 with | cons q1 q2 => cases q1; cases q2 with | cons q3 q4 => cases q3; cases q4 with | cons q5 q6 => cases q5; cases q6; exact ⟨_, rfl, h1⟩
def Stg.vals : Stg → List V
  | .mix lo => [.str "mix", .int lo]
  | .dial x => [.str "dial", .int x]
  | .pass lo hi => [.str "pass", .int lo, .int hi]
theorem dq_stg {S : List Addr} {G : Hp} {q : Addr} {s : Stg} (h : G q = some (.tup s.vals)) (hq : q ∉ S) : Dq (hid S G) (.ref q) s.d := by
  have h' : hid S G q = some (.tup s.vals) := by rw [hid_ne hq]; exact h
  cases s with
  | mix lo => exact .tup (.inl h') (.cons (.str _) (.cons (.int _) .nil))
  | dial x => exact .tup (.inl h') (.cons (.str _) (.cons (.int _) .nil))
  | pass lo hi => exact .tup (.inl h') (.cons (.str _) (.cons (.int _) (.cons (.int _) .nil)))
theorem dials_app (ss : List Stg) (s : Stg) : dials (ss ++ [s]) = dials ss + (if s.isDial then 1 else 0) := by
  unfold dials
  rw [List.filter_append, List.length_append, List.filter_cons]
  split <;> rfl
def spRadio : Sp := fun vs H Q _ => ∃ (j : Addr) (most far : Int) (n : Nat), vs = [.ref j, .int most, .int far] ∧ JarAt n H j ∧ n < 2 ^ 40 ∧ 1 ≤ most ∧ most ≤ 8 ∧ 1 ≤ far ∧ far < 2 ^ 200 ∧
  ∀ (p : Addr) (ss : List Stg) (rate : Option Int) (H' : Hp), Rad (10 * far + 20) ss rate → ss.length ≤ most.toNat → Dq (hid [j] H') (.ref p) (radD ss rate) → H p = none → JarAt (n + 100) H' j → Jx [j] H H' → Q (.ref p) H'
local macro_rules | `(tactic| walk_at "side") => `(tactic| first | assumption | ((try dsimp only); first | assumption | decide +kernel | omega | exact ⟨by decide, by decide⟩ | (left; decide) | (left; omega) | (refine Or.inl ⟨?_, ?_⟩ <;> omega) | (refine Or.inr ⟨?_, ?_⟩ <;> omega)))
local macro_rules | `(tactic| walk_at "heap") => `(tactic| first | assumption | exact upd_same | exact Or.inl (by assumption) | exact Or.inl upd_same)
local macro_rules | `(tactic| walk_at "item") => `(tactic| first | exact rfl | exact atI_nat (j := 0) rfl | exact atI_nat (j := 1) rfl | exact atI_nat (j := 2) rfl | assumption)
local macro_rules | `(tactic| walk_at "rd") => `(tactic| repeat (first
  | ((with_reducible refine' go_var ?hv ?_); (case hv => exact rfl))
  | with_reducible refine' go_c ?_
  | with_reducible refine' go_op ?_
  | with_reducible refine' go_seq ?_
  | with_reducible refine' go_asg ?_
  | with_reducible refine' go_name ?_
  | with_reducible refine' go_cons ?_
  | with_reducible refine' go_nil ?_
  | with_reducible refine' go_cb ?_
  | with_reducible refine' go_call ?_
  | with_reducible refine' go_ifS ?_
  | with_reducible refine' go_test ?_
  | with_reducible refine' go_bl ?_
  | with_reducible refine' go_ret ?_
  | with_reducible refine' go_I0 ?_
  | ((with_reducible refine' go_I ?cc ?_); (case cc => walk_at "side"))
  | ((with_reducible refine' go_ixL ?hh ?hk ?_); (case hh => walk_at "heap"); (case hk => walk_at "item"))
  | ((with_reducible refine' go_ixT ?hh ?hk ?_); (case hh => walk_at "heap"); (case hk => walk_at "item"))
  | ((with_reducible refine' go_lenL ?hh ?_); (case hh => walk_at "heap"))
  | ((with_reducible refine' go_lenT ?hh ?_); (case hh => walk_at "heap"))
  | ((with_reducible refine' go_setL ?hh ?hk ?_); (case hh => walk_at "heap"); (case hk => walk_at "item"))
  | with_reducible refine' go_abs ?_
  | with_reducible refine' go_max ?_
  | with_reducible refine' go_min ?_
  | with_reducible refine' go_int ?_
  | with_reducible refine' go_intB ?_
  | (with_reducible refine' go_eq rfl ?_)
  | (with_reducible refine' go_ne rfl ?_)
  | with_reducible refine' go_isN ?_
  | with_reducible refine' go_notN ?_
  | with_reducible refine' go_if ?_
  | with_reducible refine' go_sub ?_
  | with_reducible refine' go_par ?_
  | with_reducible refine' go_sl ?_
  | with_reducible refine' go_part ?_
  | with_reducible refine' go_pint ?_
  | with_reducible refine' go_nopart ?_
  | ((with_reducible refine' go_lenL ?hh ?_); (case hh => walk_at "heap"))
  | ((with_reducible refine' go_lenT ?hh ?_); (case hh => walk_at "heap"))
  | ((with_reducible refine' go_lenS ?hh ?_); (case hh => assumption))
  | with_reducible refine' go_gcons ?_
  | with_reducible refine' go_gnil ?_
  | with_reducible refine' go_kw ?_
  | with_reducible refine' go_par2 ?_
  | with_reducible refine' go_next ?_
  | with_reducible refine' go_drop ?_
  | with_reducible refine' go_and ?_
  | with_reducible refine' go_or ?_
  | with_reducible refine' go_not ?_
  | with_reducible refine' go_B ?_
  | with_reducible refine' go_andV ?_
  | with_reducible refine' go_orV ?_
  | with_reducible refine' go_notV ?_
  | with_reducible refine' go_chain ?_
  | with_reducible refine' go_un ?_
  | with_reducible refine' go_U ?_
  | with_reducible refine' go_bm ?_
  | with_reducible refine' go_tup ?_
  | with_reducible refine' go_lst ?_
  | with_reducible refine' go_forR1 ?_
  | with_reducible refine' go_forR2 ?_
  | with_reducible refine' go_forL ?_
  | with_reducible refine' go_forT ?_
  | with_reducible refine' go_forE ?_
  | with_reducible refine' go_lcR1 ?_
  | with_reducible refine' go_lcL ?_
  | with_reducible refine' go_lcT ?_
  | ((with_reducible refine' go_tyL ?hh ?_); (case hh => walk_at "heap"))
  | ((with_reducible refine' go_new ?hz ?_); (case hz => exact Nat.le_of_ble_eq_true rfl))
  | (with_reducible refine' ⟨_, rfl, ?_⟩)
  ))
--MACEND
section
variable {P : Program} {w : World} {K : PySem.W.Frag} {mg : Str → Option Value} {base : Heap}
/-- what stands between two laps: the list at l holds the data ss, of which no more than one is a dial, none before the lap `spot` -/
structure Lap (b : Int) (S : List Addr) (l : Addr) (i : Nat) (spot : Int) (H : Hp) (vs : List V) (ss : List Stg) : Prop where
  at_ : H l = some (.lst vs)
  da : DqAll (hid S H) vs (ss.map Stg.d)
  len : ss.length = i
  ok : ∀ s ∈ ss, s.ok b
  one : dials ss ≤ if spot < i then 1 else 0
theorem Lap.jar {b : Int} {S : List Addr} {l : Addr} {i : Nat} {spot : Int} {H H' : Hp} {vs : List V} {ss : List Stg} (h : Lap b S l i spot H vs ss) (e : Jx S H H') (hl : H' l = H l) : Lap b S l i spot H' vs ss :=
  ⟨hl.trans h.at_, e.dqa h.da, h.len, h.ok, h.one⟩
/-- one more stage -/
theorem Lap.app {b : Int} {S : List Addr} {l : Addr} {i : Nat} {spot : Int} {H : Hp} {vs : List V} {ss : List Stg} {v : V} {s : Stg} (h : Lap b S l i spot H vs ss) (hS : l ∈ S) (hv : Dq (hid S H) v s.d) (hs : s.ok b)
    (hd : s.isDial = true → (i : Int) = spot) : Lap b S l (i + 1) spot (upd H l (.lst (vs ++ [v]))) (vs ++ [v]) (ss ++ [s]) := by
  refine ⟨upd_same, ?_, by rw [List.length_append, h.len]; rfl, fun x hx => ?_, ?_⟩
  · rw [hid_upd hS, List.map_append]
    exact h.da.app (.one hv)
  · rcases List.mem_append.mp hx with hx | hx
    · exact h.ok x hx
    · rw [List.mem_singleton.mp hx]; exact hs
  · have h1 := h.one
    rw [dials_app]
    by_cases q : s.isDial = true
    · have := hd q
      rw [if_pos q, if_pos (by omega)]
      rw [if_neg (by omega)] at h1
      omega
    · rw [if_neg q]
      by_cases z : spot < (i : Int)
      · rw [if_pos z] at h1; rw [if_pos (by omega)]; omega
      · rw [if_neg z] at h1
        have : dials ss = 0 := by omega
        rw [this]
        split <;> omega
theorem Jx_free {S : List Addr} {H H' : Hp} {t : Addr} (e : Jx S H H') (h : H' t = none) (ht : ∀ s ∈ S, H' s ≠ none) : H t = none := by
  cases q : H t with
  | none => rfl
  | some o =>
    have := e.get q fun z => ht t z h
    rw [h] at this
    cases this
theorem dqa_snoc {H : Hp} : ∀ {vs : List V} {ds : List PyData} {d : PyData}, DqAll H vs (ds ++ [d]) → ∃ vs0 v, vs = vs0 ++ [v] ∧ DqAll H vs0 ds ∧ Dq H v d
  | _, [], d, .cons (v := v) h k => by cases k; exact ⟨[], v, rfl, .nil, h⟩
  | _, e :: ds, d, .cons (v := v) h k => by
    obtain ⟨vs0, w, rfl, h1, h2⟩ := dqa_snoc k
    exact ⟨v :: vs0, w, rfl, .cons h h1, h2⟩
theorem stgs_nil (ss : List Stg) : PyData.eqv (.list (ss.map Stg.d)) (.list []) = ss.isEmpty := by cases ss <;> simp [PyData.eqv, PyData.eqvAll]
/-- the name of a stage -/
def Stg.nm : Stg → Str
  | .mix _ => "mix"
  | .dial _ => "dial"
  | .pass _ _ => "pass"
theorem stg_nm {H : Hp} {v : V} {s : Stg} (h : Dq H v s.d) : ∃ a xs, v = .ref a ∧ Rd H a (.tup xs) ∧ atI xs 0 = some (.str s.nm) := by
  obtain ⟨a, rfl, h⟩ := stg_at h
  cases s with
  | mix lo => exact ⟨_, _, rfl, h, rfl⟩
  | dial lo => exact ⟨_, _, rfl, h, rfl⟩
  | pass lo hi => exact ⟨_, _, rfl, h, rfl⟩
theorem nm_dial (s : Stg) : decide (V.str s.nm = V.str "dial") = s.isDial := by
  cases s with
  | mix lo => exact (by decide +kernel : decide (V.str "mix" = V.str "dial") = false)
  | dial lo => exact (by decide +kernel : decide (V.str "dial" = V.str "dial") = true)
  | pass lo hi => exact (by decide +kernel : decide (V.str "pass" = V.str "dial") = false)
theorem strs_ok : PyData.strOk "mix" = true ∧ PyData.strOk "dial" = true ∧ PyData.strOk "pass" = true := by decide +kernel
theorem lay_stg : ∀ s : Stg, s.d.canLay0 = true
  | .mix lo => by simp [Stg.d, PyData.canLay0, PyData.canLayAll0, strs_ok]
  | .dial lo => by simp [Stg.d, PyData.canLay0, PyData.canLayAll0, strs_ok]
  | .pass lo hi => by simp [Stg.d, PyData.canLay0, PyData.canLayAll0, strs_ok]
theorem depth_stg : ∀ s : Stg, s.d.depth = 1
  | .mix lo => rfl
  | .dial lo => rfl
  | .pass lo hi => rfl
theorem lay_stgs : ∀ ss : List Stg, PyData.canLayAll0 (ss.map Stg.d) = true ∧ PyData.depthAll (ss.map Stg.d) ≤ 1
  | [] => ⟨rfl, Nat.zero_le _⟩
  | s :: ss => by
    obtain ⟨h1, h2⟩ := lay_stgs ss
    refine ⟨by rw [List.map_cons, PyData.canLayAll0, lay_stg, h1]; rfl, ?_⟩
    rw [List.map_cons, PyData.depthAll, depth_stg]
    omega
theorem shaped_stgs (ss : List Stg) : SeqAt.shaped (.list (ss.map Stg.d)) = true := by
  obtain ⟨h1, h2⟩ := lay_stgs ss
  unfold SeqAt.shaped
  rw [Bool.and_eq_true]
  refine ⟨by simpa [PyData.canLay0] using h1, decide_eq_true ?_⟩
  rw [PyData.depth]
  omega
theorem menu_int (xs : List Int) (lo hi : Int) {u : Int} (h0 : 0 ≤ u) (h1 : u < xs.length) (hb : ∀ x ∈ xs, lo ≤ x ∧ x ≤ hi) : ∃ x, atI (xs.map V.int) u = some (.int x) ∧ lo ≤ x ∧ x ≤ hi := by
  obtain ⟨k, rfl⟩ : ∃ k : Nat, u = k := ⟨u.toNat, by omega⟩
  have hk : k < xs.length := by omega
  exact ⟨xs[k], atI_nat (by rw [List.getElem?_map, List.getElem?_eq_getElem hk]; rfl), hb _ (List.getElem_mem hk)⟩
theorem JarAt.obj {n : Nat} {H : Hp} {j : Addr} (h : JarAt n H j) : ∃ o, H j = some o := let ⟨_, _, _, h, _⟩ := h; ⟨_, h⟩
theorem JarAt.fresh {n : Nat} {H H' : Hp} {j t : Addr} (J : JarAt n H' j) (e : Jx [j] H H') (h : H' t = none) : H t = none :=
  Jx_free e h fun s hs z => by
    obtain rfl : s = j := by simpa using hs
    obtain ⟨o, q⟩ := J.obj
    rw [z] at q
    cases q
theorem JarAt.keep {n : Nat} {H H' : Hp} {j : Addr} (h : JarAt n H j) (e : H' j = H j) : JarAt n H' j := let ⟨a, b, c, h, r⟩ := h; ⟨a, b, c, e.trans h, r⟩
theorem pick_go {j : Addr} {bound : Int} {n : Nat} {H : Hp} {Q : VK} {E : XK} (hJ : JarAt n H j) (hn : n < 2 ^ 50) (h0 : 0 < bound) (h1 : bound < 2 ^ 400)
    (k : ∀ (r : Int) (H' : Hp), 0 ≤ r → r < bound → JarAt (n + 1) H' j → Jx [j] H H' → Q (.int r) H') : spPick ([.ref j, .int bound] ++ []) H Q E := ⟨j, bound, n, rfl, hJ, hn, h0, h1, k⟩
theorem Lap.lay {b : Int} {S : List Addr} {l p : Addr} {i : Nat} {spot : Int} {H : Hp} {o : HO} {vs : List V} {ss : List Stg} (h : Lap b S l i spot H vs ss) (hp : H p = none) : Lap b S l i spot (upd H p o) vs ss :=
  h.jar (Jx.new hp) (upd_ne (fresh_ne h.at_ hp).symm)
theorem Lap.pick {b : Int} {l j : Addr} {i : Nat} {spot : Int} {H H' : Hp} {vs : List V} {ss : List Stg} (h : Lap b [l, j] l i spot H vs ss) (hlj : l ≠ j) (e : Jx [j] H H') : Lap b [l, j] l i spot H' vs ss :=
  h.jar (e.more (by simp)) ((e.get h.at_ (nin1 hlj)).trans h.at_.symm)
abbrev s__law_radio : Stmt := top 47
theorem sc__law_radio : FnScope ["jar", "most", "top", "stages", "spot", "lap", "kind", "low"] ["jar", "most", "top"] (defScope s__law_radio) := ⟨rfl, rfl, rfl, by decide +kernel, rfl, by decide +kernel, by decide +kernel⟩
theorem ok_radio {f : Addr} {fd : FuncData} (F : Fun K "_law_radio" "_law_radio" s__law_radio f fd) (m_range : mg "range" = none) (h__law_pick : Has P w K mg base 1 "_law_pick" spPick) :
    FnOk P w K mg base CX0 2 f fd ["jar", "most", "top"] spRadio := by
  refine F.ok sc__law_radio (fun vs H Q E h => ?_) (fun cdv A outer s H vs Q E hr h => ?_)
  · obtain ⟨j, most, far, n, rfl, _⟩ := h
    rfl
  · obtain ⟨j, most, far, n, rfl, hJ, hn, hm1, hm8, hf1, hf2, k⟩ := h
    refine ⟨_, (pss_cons (ps_par (i := 3) (j := 4) (by rfl) sc__law_radio.nd rfl rfl (by decide) rfl rfl (pa_cons (pe_lst pa_nil) (pa_cons (pe_hs h__law_pick hr rfl (pa_cons (pv 0) (pa_cons (pe_op op_mul pe_int (pv 1)) pa_nil))) pa_nil)) (by rfl))
  (pss_cons (ps_for PassesOwn.never rfl (pi_range1 (by rfl) m_range (pa_cons (pe_op op_add pe_int (pe_hs h__law_pick hr rfl (pa_cons (pv 0) (pa_cons (pv 1) pa_nil)))) pa_nil)) (pg_name (i := 5) sc__law_radio.nd rfl (Or.inl rfl))
  (pss_cons (ps_par (i := 6) (j := 7) (by rfl) sc__law_radio.nd rfl rfl (by decide) rfl rfl (pa_cons (pe_hs h__law_pick hr rfl (pa_cons (pv 0) (pa_cons pe_int pa_nil))) (pa_cons (pe_ix ix_list (pe_lst (pa_cons pe_int (pa_cons (pe_hs h__law_pick hr rfl (pa_cons (pv 0) (pa_cons (pv 2) pa_nil))) pa_nil))) (pe_hs h__law_pick hr rfl (pa_cons (pv 0) (pa_cons pe_int pa_nil))) (fun _ _ => rfl)) pa_nil)) (by rfl))
  (pss_one (ps_if (pt_cmpR op_eq (pv 5) (pv 4) (nomark _))
  (pss_one (ps_expr (pe_bm PySem.F.plainAttrs_list PySem.F.slot_list_append PySem.F.type_list_append mt_append (pv 3) (pa_cons (pe_tup (pa_cons pe_str (pa_cons (pe_op op_sub (pe_hs h__law_pick hr rfl (pa_cons (pv 0) (pa_cons (pe_op op_add (pe_op op_mul pe_int (pv 2)) pe_int) pa_nil))) (pv 2)) pa_nil))) pa_nil))))
  (pss_one (ps_if (pt_cmpR op_eq (pv 6) pe_int (nomark _))
  (pss_one (ps_expr (pe_bm PySem.F.plainAttrs_list PySem.F.slot_list_append PySem.F.type_list_append mt_append (pv 3) (pa_cons (pe_tup (pa_cons pe_str (pa_cons (pv 7) (pa_cons (pe_op op_add (pv 7) (pe_ix ix_list (pe_lst (pa_cons pe_int (pa_cons pe_int (pa_cons (pe_hs h__law_pick hr rfl (pa_cons (pv 0) (pa_cons (pe_op op_add (pv 2) pe_int) pa_nil))) (pa_cons (pe_op op_mul pe_int (pv 2)) pa_nil))))) (pe_hs h__law_pick hr rfl (pa_cons (pv 0) (pa_cons pe_int pa_nil))) (fun _ _ => rfl))) pa_nil)))) pa_nil))))
  (pss_one (ps_if (PW.pt (pw_and (pt_cmpR op_eq (pv 6) pe_int (nomark _)) (pw_and (pt_cmpR (op_neD hr.units) (pv 3) (pe_lst pa_nil) (nomark _)) (pw_and1 (pt_cmpR op_ne (pe_ix ix_tup (pe_ix ix_list (pv 3) (pe_un un_neg pe_int) (fun _ _ => rfl)) pe_int (fun _ _ => rfl)) pe_str (nomark _))))))
  (pss_one (ps_expr (pe_bm PySem.F.plainAttrs_list PySem.F.slot_list_append PySem.F.type_list_append mt_append (pv 3) (pa_cons (pe_ix ix_list (pv 3) (pe_un un_neg pe_int) (fun _ _ => rfl)) pa_nil))))
  (pss_one (ps_expr (pe_bm PySem.F.plainAttrs_list PySem.F.slot_list_append PySem.F.type_list_append mt_append (pv 3) (pa_cons (pe_tup (pa_cons pe_str (pa_cons (pe_ix ix_list (pe_lst (pa_cons pe_int (pa_cons pe_int (pa_cons (pe_hs h__law_pick hr rfl (pa_cons (pv 0) (pa_cons (pe_op op_add (pv 2) pe_int) pa_nil))) (pa_cons (pe_hs h__law_pick hr rfl (pa_cons (pv 0) (pa_cons (pe_op op_add (pv 2) pe_int) pa_nil))) pa_nil))))) (pe_hs h__law_pick hr rfl (pa_cons (pv 0) (pa_cons pe_int pa_nil))) (fun _ _ => rfl)) pa_nil))) pa_nil))))))))))))
  (pss_one (ps_ret (pe_tup (pa_cons (pv 3) (pa_cons (pe_ix ix_list (pe_lst (pa_cons pe_non (pa_cons pe_non (pa_cons pe_int (pa_cons pe_int (pa_cons (pe_op op_add pe_int (pe_hs h__law_pick hr rfl (pa_cons (pv 0) (pa_cons pe_int pa_nil)))) (pa_cons (pe_op op_add pe_int (pe_hs h__law_pick hr rfl (pa_cons (pv 0) (pa_cons (pv 2) pa_nil)))) pa_nil))))))) (pe_hs h__law_pick hr rfl (pa_cons (pv 0) (pa_cons pe_int pa_nil))) (fun _ _ => rfl)) pa_nil))))))), ?_⟩
    walk_at "rd"
    intro l hl
    have hlj : l ≠ j := fresh_ne hJ.obj.choose_spec hl
    have hJ0 : JarAt n (upd H l (.lst [])) j := hJ.keep (upd_ne hlj.symm)
    have hL : Lap (10 * far + 20) [l, j] l 0 (-1) (upd H l (.lst [])) [] [] := ⟨upd_same, .nil, rfl, (fun _ h => nomatch h), Nat.zero_le _⟩
    walk_at "rd"
    refine pick_go hJ0 (by omega) (by omega) (by omega) fun spot H1 s0 s1 hJ1 x1 => ?_
    walk_at "rd"
    refine pick_go hJ1 (by omega) (by omega) (by omega) fun laps H2 t0 t1 hJ2 x2 => ?_
    walk_at "rd"
    refine ⟨by omega, by omega, ?_⟩
    have hL2 : Lap (10 * far + 20) [l, j] l 0 spot H2 [] [] :=
      ⟨((hL.pick hlj x1).pick hlj x2).at_, .nil, rfl, (fun _ h => nomatch h), Nat.zero_le _⟩
    have hX2 : Jx [l, j] H H2 := ((Jx.new hl).tr (x1.more (by simp))).tr (x2.more (by simp))
    refine run_forR (fun i σ G => ∃ (vs : List V) (ss : List Stg) (v5 v6 v7 : Option V), σ = [some (.ref j), some (.int most), some (.int far), some (.ref l), some (.int spot), v5, v6, v7] ∧
        Lap (10 * far + 20) [l, j] l i spot G vs ss ∧ JarAt (n + 2 + 6 * i) G j ∧ Jx [l, j] H G) ?_ ?_ ?_
    · exact ⟨[], [], _, _, _, rfl, hL2, hJ2.mono (by omega), hX2⟩
    · rintro i σ G hi ⟨vs, ss, v5, v6, v7, rfl, L, hJi, X⟩
      have hi8 : i < 8 := by omega
      walk_at "rd"
      refine pick_go hJi (by omega) (by omega) (by omega) fun kind G1 k0 k1 J1 y1 => ?_
      have L1 := L.pick hlj y1
      refine go_cons ?_
      -- [0, pick(far)][pick(2)]
      refine cut_e (te := tOp _ _ _) (fun v G3 => ∃ low : Int, v = .int low ∧ 0 ≤ low ∧ low ≤ far ∧ Lap (10 * far + 20) [l, j] l i spot G3 vs ss ∧ JarAt (n + 5 + 6 * i) G3 j ∧ Jx [l, j] G1 G3) (fun Q' q => ?_) ?_
      · walk_at "rd"
        refine pick_go J1 (by omega) (by omega) (by omega) fun z G2 z0 z1 J2 y2 => ?_
        have L2' := L1.pick hlj y2
        walk_at "rd"
        intro p hp
        have hpj : p ≠ j := fresh_ne J2.obj.choose_spec hp
        have L3 := L2'.lay (o := .lst [.int 0, .int z]) hp
        have hJ3 := J2.keep (upd_ne (o := .lst [.int 0, .int z]) (H := G2) hpj.symm)
        walk_at "rd"
        refine pick_go hJ3 (by omega) (by omega) (by omega) fun u G3 u0 u1 J3 y3 => ?_
        have hp3 := y3.get (upd_same (H := G2) (a := p) (o := .lst [.int 0, .int z])) (nin1 hpj)
        have fin : ∀ low : Int, 0 ≤ low → low ≤ far → Q' (.int low) G3 := fun low l0 l1 =>
          q _ _ ⟨low, rfl, l0, l1, L3.pick hlj y3, J3.mono (by omega), ((y2.more (by simp)).tr (Jx.new hp)).tr (y3.more (by simp))⟩
        rcases (by omega : u = 0 ∨ u = 1) with rfl | rfl
        · exact go_ixL (.inl hp3) rfl (fin _ (by omega) (by omega))
        · exact go_ixL (.inl hp3) rfl (fin _ (by omega) (by omega))
      · rintro v G3 ⟨low, rfl, l0, l1, L3, J3, y3⟩
        have X3 : Jx [l, j] H G3 := (X.tr (y1.more (by simp))).tr y3
        have fin : ∀ (G' : Hp) (v : V) (s : Stg), Lap (10 * far + 20) [l, j] l i spot G' vs ss → JarAt (n + 8 + 6 * i) G' j → Jx [l, j] H G' → Dq (hid [l, j] G') v s.d → s.ok (10 * far + 20) → (s.isDial = true → (i : Int) = spot) →
            ∃ (vs' : List V) (ss' : List Stg) (v5 v6 v7 : Option V), [some (.ref j), some (.int most), some (.int far), some (.ref l), some (.int spot), some (V.int (0 + (i : Int))), some (V.int kind), some (V.int low)] = [some (.ref j), some (.int most), some (.int far), some (.ref l), some (.int spot), v5, v6, v7] ∧
              Lap (10 * far + 20) [l, j] l (i + 1) spot (upd G' l (.lst (vs ++ [v]))) vs' ss' ∧ JarAt (n + 2 + 6 * (i + 1)) (upd G' l (.lst (vs ++ [v]))) j ∧ Jx [l, j] H (upd G' l (.lst (vs ++ [v]))) :=
          fun G' v s L' J' X' hv hs hd => ⟨_, _, _, _, _, rfl, L'.app (by simp) hv hs hd, (J'.mono (by omega)).keep (upd_ne hlj.symm), X'.tr (Jx.upd (by simp))⟩
        have hl3 := L3.at_
        have hvs : vs.length < sizeLine := by
          have e1 := L3.da.len
          have e2 := L3.len
          rw [List.length_map] at e1
          exact Nat.lt_of_lt_of_le (by omega : vs.length < 9) (by decide)
        have hfin : ∀ (G' : Hp) (q : Addr) (s : Stg) (m : Nat), Lap (10 * far + 20) [l, j] l i spot G' vs ss → JarAt m G' j → m ≤ n + 8 + 6 * i → Jx [l, j] H G' → G' q = none → s.ok (10 * far + 20) → (s.isDial = true → (i : Int) = spot) →
            ∃ (vs' : List V) (ss' : List Stg) (v5 v6 v7 : Option V), [some (.ref j), some (.int most), some (.int far), some (.ref l), some (.int spot), some (V.int (0 + (i : Int))), some (V.int kind), some (V.int low)] = [some (.ref j), some (.int most), some (.int far), some (.ref l), some (.int spot), v5, v6, v7] ∧
              Lap (10 * far + 20) [l, j] l (i + 1) spot (upd (upd G' q (.tup s.vals)) l (.lst (vs ++ [.ref q]))) vs' ss' ∧ JarAt (n + 2 + 6 * (i + 1)) (upd (upd G' q (.tup s.vals)) l (.lst (vs ++ [.ref q]))) j ∧ Jx [l, j] H (upd (upd G' q (.tup s.vals)) l (.lst (vs ++ [.ref q]))) :=
          fun G' q s m L' J' hm X' hq hs hd => fin _ _ s (L'.lay hq) ((J'.mono hm).keep (upd_ne (fresh_ne J'.obj.choose_spec hq).symm)) (X'.tr (Jx.new hq)) (dq_stg upd_same (nin2 (fresh_ne L'.at_ hq) (fresh_ne J'.obj.choose_spec hq))) hs hd
        walk_at "rd"
        refine ite2 (fun c => ?_) (fun c => ?_)
        · -- a dial
          have hsp : (i : Int) = spot := by simpa using c
          walk_at "rd"
          refine pick_go J3 (by omega) (by omega) (by omega) fun x G4 x0 x1 J4 y4 => ?_
          have L4 := L3.pick hlj y4
          walk_at "rd"
          intro q hq
          walk_at "rd"
          refine go_app (L4.lay hq).at_ hvs ?_
          exact hfin G4 q (.dial (x - far)) _ L4 J4 (by omega) (X3.tr (y4.more (by simp))) hq ⟨by omega, by omega⟩ (fun _ => hsp)
        · walk_at "rd"
          refine ite2 (fun c2 => ?_) (fun c2 => ?_)
          · -- a pass
            walk_at "rd"
            refine pick_go J3 (by omega) (by omega) (by omega) fun z G4 z0 z1 J4 y4 => ?_
            have L4 := L3.pick hlj y4
            walk_at "rd"
            intro p hp
            have hpj : p ≠ j := fresh_ne J4.obj.choose_spec hp
            have L5 := L4.lay (o := .lst [.int 0, .int 1, .int z, .int (9 * far)]) hp
            have J5 := J4.keep (upd_ne (o := .lst [.int 0, .int 1, .int z, .int (9 * far)]) (H := G4) hpj.symm)
            walk_at "rd"
            refine pick_go J5 (by omega) (by omega) (by omega) fun u G6 u0 u1 J6 y6 => ?_
            have hp6 := y6.get (upd_same (H := G4) (a := p) (o := .lst [.int 0, .int 1, .int z, .int (9 * far)])) (nin1 hpj)
            have L6 := L5.pick hlj y6
            obtain ⟨hi, e, hi0, hi1⟩ := menu_int [0, 1, z, 9 * far] 0 (9 * far + 1) u0 (by simpa using u1) (by simp; omega)
            refine go_ixL (.inl hp6) e ?_
            walk_at "rd"
            intro q hq
            walk_at "rd"
            refine go_app (L6.lay hq).at_ hvs ?_
            exact hfin G6 q (.pass low (low + hi)) _ L6 J6 (by omega) (((X3.tr (y4.more (by simp))).tr (Jx.new hp)).tr (y6.more (by simp))) hq ⟨by omega, by omega, by omega⟩ (fun z => nomatch z)
          · -- the same once more, or a mixer
            refine go_ifS ?_
            refine cut_t (tt := tAnd _ _) (fun b G4 => (b = true → ∃ vs0 v ss0 s, vs = vs0 ++ [v] ∧ ss = ss0 ++ [s] ∧ s.isDial = false) ∧ Lap (10 * far + 20) [l, j] l i spot G4 vs ss ∧ JarAt (n + 5 + 6 * i) G4 j ∧ Jx [l, j] H G4) (fun Q' q => ?_) ?_
            · walk_at "rd"
              refine ite2 (fun c3 => ?_) (fun c3 => q _ _ ⟨(fun z => nomatch z), L3, J3, X3⟩)
              walk_at "rd"
              intro p hp
              have L4 := L3.lay (o := .lst []) hp
              have J4 := J3.keep (upd_ne (o := .lst []) (H := G3) (fresh_ne J3.obj.choose_spec hp).symm)
              have X4 := X3.tr (Jx.new (o := .lst []) hp)
              refine go_neD (.lst (.inl L4.at_) (L4.da.ex hid_ex)) (.lst (.inl upd_same) .nil) (shaped_stgs ss) (by decide +kernel) ?_
              rw [stgs_nil]
              walk_at "rd"
              rcases List.eq_nil_or_concat ss with rfl | ⟨ss0, s, rfl⟩
              · exact iteF (q _ _ ⟨(fun z => nomatch z), L4, J4.mono (by omega), X4⟩)
              · have hda := L4.da
                rw [List.concat_eq_append, List.map_append] at hda
                obtain ⟨vs0, v, rfl, _, hv⟩ := dqa_snoc hda
                obtain ⟨a, xs, rfl, ha, hx⟩ := stg_nm (hv.ex hid_ex)
                rw [List.concat_eq_append]
                rw [if_pos (by cases ss0 <;> rfl)]
                have hl4 := L4.at_
                walk_at "rd"
                refine go_ixL (.inl hl4) (atI_last vs0 _) ?_
                walk_at "rd"
                try refine go_ixT ha hx ?_
                walk_at "rd"
                rw [nm_dial]
                refine q _ _ ⟨fun z => ⟨vs0, _, ss0, s, rfl, by simp, by simpa using z⟩, by simpa using L4, J4.mono (by omega), X4⟩
            · rintro b G4 ⟨hb, L4, J4, X4⟩
              refine ite2 (fun c4 => ?_) (fun c4 => ?_)
              · obtain ⟨vs0, v, ss0, s, rfl, rfl, hs⟩ := hb c4
                have hl4 := L4.at_
                have hda := L4.da
                rw [List.map_append] at hda
                obtain ⟨vs1, v1, ev, _, hv⟩ := dqa_snoc hda
                obtain ⟨rfl, e1⟩ := List.append_inj' ev rfl
                obtain rfl : v = v1 := by simpa using e1
                walk_at "rd"
                refine go_ixL (.inl hl4) (atI_last vs0 _) ?_
                walk_at "rd"
                refine go_app hl4 hvs ?_
                exact fin G4 v s L4 (J4.mono (by omega)) X4 hv (L4.ok s (by simp)) (fun z => by rw [hs] at z; cases z)
              · have hl4 := L4.at_
                walk_at "rd"
                refine pick_go J4 (by omega) (by omega) (by omega) fun z1 G5 z10 z11 J5 y5 => ?_
                have L5 := L4.pick hlj y5
                walk_at "rd"
                refine pick_go J5 (by omega) (by omega) (by omega) fun z2 G6 z20 z21 J6 y6 => ?_
                have L6 := L5.pick hlj y6
                walk_at "rd"
                intro p hp
                have hpj : p ≠ j := fresh_ne J6.obj.choose_spec hp
                have L7 := L6.lay (o := .lst [.int 0, .int 1, .int z1, .int z2]) hp
                have J7 := J6.keep (upd_ne (o := .lst [.int 0, .int 1, .int z1, .int z2]) (H := G6) hpj.symm)
                walk_at "rd"
                refine pick_go J7 (by omega) (by omega) (by omega) fun u G8 u0 u1 J8 y8 => ?_
                have hp8 := y8.get (upd_same (H := G6) (a := p) (o := .lst [.int 0, .int 1, .int z1, .int z2])) (nin1 hpj)
                have L8 := L7.pick hlj y8
                obtain ⟨lo, e, lo0, lo1⟩ := menu_int [0, 1, z1, z2] 0 (far + 1) u0 (by simpa using u1) (by simp; omega)
                refine go_ixL (.inl hp8) e ?_
                walk_at "rd"
                intro q hq
                walk_at "rd"
                refine go_app (L8.lay hq).at_ hvs ?_
                exact hfin G8 q (.mix lo) _ L8 J8 (by omega) ((((X4.tr (y5.more (by simp))).tr (y6.more (by simp))).tr (Jx.new hp)).tr (y8.more (by simp))) hq ⟨by omega, by omega⟩ (fun z => nomatch z)
    · rintro σ G ⟨vs, ss, v5, v6, v7, rfl, L, hJi, X⟩
      have hle : (1 + laps).toNat ≤ 8 := by omega
      have hX0 : Jx [j] H G := Jx.less (X.more (by simp)) hl
      walk_at "rd"
      refine pick_go hJi (by omega) (by omega) (by omega) fun z1 G1 z10 z11 J1 y1 => ?_
      have L1 := L.pick hlj y1
      walk_at "rd"
      refine pick_go J1 (by omega) (by omega) (by omega) fun z2 G2 z20 z21 J2 y2 => ?_
      have L2 := L1.pick hlj y2
      walk_at "rd"
      intro p hp
      have hpj : p ≠ j := fresh_ne J2.obj.choose_spec hp
      have L3 := L2.lay (o := .lst [.non, .non, .int 2, .int 3, .int (2 + z1), .int (2 + z2)]) hp
      have J3 := J2.keep (upd_ne (o := .lst [.non, .non, .int 2, .int 3, .int (2 + z1), .int (2 + z2)]) (H := G2) hpj.symm)
      walk_at "rd"
      refine pick_go J3 (by omega) (by omega) (by omega) fun u G4 u0 u1 J4 y4 => ?_
      have hp4 := y4.get (upd_same (H := G2) (a := p) (o := .lst [.non, .non, .int 2, .int 3, .int (2 + z1), .int (2 + z2)])) (nin1 hpj)
      have L4 := L3.pick hlj y4
      have hX4 : Jx [j] H G4 := ((hX0.tr (y1.tr y2)).tr (Jx.new hp)).tr y4
      have fin : ∀ (v : V) (rate : Option Int), atI [.non, .non, .int 2, .int 3, .int (2 + z1), .int (2 + z2)] u = some v → (∀ r, rate = some r → 2 ≤ r ∧ r ≤ 10 * far + 20) → Dq (fun _ => none) v (rateD rate) →
          ∀ t, G4 t = none → Q (.ref t) (upd G4 t (.tup [.ref l, v])) := fun v rate _ hr hv t ht => by
        have htj : t ≠ j := fresh_ne J4.obj.choose_spec ht
        have htl : t ≠ l := fresh_ne L4.at_ ht
        have L5 := L4.lay (o := .tup [.ref l, v]) ht
        have hlen := L4.len
        refine k t ss rate _ ⟨fun z => ?_, by omega, L4.ok, ?_, hr⟩ (by omega) ?_ (J4.fresh hX4 ht) ((J4.mono (by omega)).keep (upd_ne htj.symm)) (hX4.tr (Jx.new ht))
        · subst z
          simp at hlen
          omega
        · have := L4.one
          split at this <;> omega
        · refine .tup (.inl (by rw [hid_ne (nin1 htj)]; exact upd_same)) (.cons (.lst (.inl (by rw [hid_ne (nin1 hlj)]; exact L5.at_)) (L5.da.ex (hid_sub (by simp)))) (.cons (hv.ex (fun _ _ z => absurd z (by simp))) .nil))
      have rr : ∀ r : Int, 2 ≤ r → r ≤ 10 * far + 20 → ∀ r', some r = some r' → 2 ≤ r' ∧ r' ≤ 10 * far + 20 := fun r h1 h2 r' e => by
        cases e
        exact ⟨h1, h2⟩
      have cc : u = 0 ∨ u = 1 ∨ u = 2 ∨ u = 3 ∨ u = 4 ∨ u = 5 := by omega
      obtain ⟨v, rate, hv, hr, hd⟩ : ∃ (v : V) (rate : Option Int), atI [.non, .non, .int 2, .int 3, .int (2 + z1), .int (2 + z2)] u = some v ∧ (∀ r, rate = some r → 2 ≤ r ∧ r ≤ 10 * far + 20) ∧ Dq (fun _ => none) v (rateD rate) := by
        rcases cc with rfl | rfl | rfl | rfl | rfl | rfl
        · exact ⟨.non, none, rfl, (fun _ z => nomatch z), .non⟩
        · exact ⟨.non, none, rfl, (fun _ z => nomatch z), .non⟩
        · exact ⟨_, some 2, rfl, rr _ (by omega) (by omega), .int _⟩
        · exact ⟨_, some 3, rfl, rr _ (by omega) (by omega), .int _⟩
        · exact ⟨_, some (2 + z1), rfl, rr _ (by omega) (by omega), .int _⟩
        · exact ⟨_, some (2 + z2), rfl, rr _ (by omega) (by omega), .int _⟩
      refine go_ixL (.inl hp4) hv ?_
      walk_at "rd"
      exact fin v rate hv hr hd
end
end Kx

set_option Elab.async false
set_option linter.all false
set_option maxRecDepth 100000
namespace HX
open PySem PySem.Spec PyProof.Rows L2
open Evl (Ex)
/-! ### isinstance of data -/
def tyNm : PyData → String
  | .none => "NoneType"
  | .bool _ => "bool"
  | .int _ => "int"
  | .str _ => "str"
  | .list _ => "list"
  | .tuple _ => "tuple"
  | .dict _ => "dict"
theorem Dq.ty {K : PySem.W.Frag} {H : Hp} {x : V} {d : PyData} (h : Dq H x d) : TyX K H x (.type (tyNm d)) := by
  cases h with
  | non => exact .base .non
  | bl b => exact .base (.bl b)
  | int i => exact .base (.int i)
  | str y => exact .base (.str y)
  | lst h k => rcases h with h | ⟨o, h⟩
               · exact .base (.lst h)
               · exact .base (.frz h)
  | tup h k => rcases h with h | ⟨o, h⟩
               · exact .base (.tup h)
               · exact .fTuple h
  | dic h => exact .base (.dK h)
theorem go_isi {K : PySem.W.Frag} {H : Hp} {x : V} {d : PyData} {T : String} {b : Bool} {Q : VK} (h : Dq H x d) (e : kitB (tyNm d) T = some b) (q : Q (.bl b) H) : rIsi K [x, .ty T] H Q :=
  ⟨x, .ty T, _, _, b, rfl, .ty T, h.ty, kit_ty e, q⟩
def pInt : PyData → Bool
  | .int _ => true
  | .bool _ => true
  | _ => false
theorem kit_int (d : PyData) : kitB (tyNm d) "int" = some (pInt d) := by
  cases d with
  | none => exact (by decide +kernel : kitB "NoneType" "int" = some false)
  | bool _ => exact (by decide +kernel : kitB "bool" "int" = some true)
  | int _ => exact (by decide +kernel : kitB "int" "int" = some true)
  | str _ => exact (by decide +kernel : kitB "str" "int" = some false)
  | list _ => exact (by decide +kernel : kitB "list" "int" = some false)
  | tuple _ => exact (by decide +kernel : kitB "tuple" "int" = some false)
  | dict _ => exact (by decide +kernel : kitB "dict" "int" = some false)
def pBool : PyData → Bool
  | .bool _ => true
  | _ => false
theorem kit_bool (d : PyData) : kitB (tyNm d) "bool" = some (pBool d) := by
  cases d with
  | none => exact (by decide +kernel : kitB "NoneType" "bool" = some false)
  | bool _ => exact (by decide +kernel : kitB "bool" "bool" = some true)
  | int _ => exact (by decide +kernel : kitB "int" "bool" = some false)
  | str _ => exact (by decide +kernel : kitB "str" "bool" = some false)
  | list _ => exact (by decide +kernel : kitB "list" "bool" = some false)
  | tuple _ => exact (by decide +kernel : kitB "tuple" "bool" = some false)
  | dict _ => exact (by decide +kernel : kitB "dict" "bool" = some false)
def pStr : PyData → Bool
  | .str _ => true
  | _ => false
theorem kit_str (d : PyData) : kitB (tyNm d) "str" = some (pStr d) := by
  cases d with
  | none => exact (by decide +kernel : kitB "NoneType" "str" = some false)
  | bool _ => exact (by decide +kernel : kitB "bool" "str" = some false)
  | int _ => exact (by decide +kernel : kitB "int" "str" = some false)
  | str _ => exact (by decide +kernel : kitB "str" "str" = some true)
  | list _ => exact (by decide +kernel : kitB "list" "str" = some false)
  | tuple _ => exact (by decide +kernel : kitB "tuple" "str" = some false)
  | dict _ => exact (by decide +kernel : kitB "dict" "str" = some false)
def pList : PyData → Bool
  | .list _ => true
  | _ => false
theorem kit_list (d : PyData) : kitB (tyNm d) "list" = some (pList d) := by
  cases d with
  | none => exact (by decide +kernel : kitB "NoneType" "list" = some false)
  | bool _ => exact (by decide +kernel : kitB "bool" "list" = some false)
  | int _ => exact (by decide +kernel : kitB "int" "list" = some false)
  | str _ => exact (by decide +kernel : kitB "str" "list" = some false)
  | list _ => exact (by decide +kernel : kitB "list" "list" = some true)
  | tuple _ => exact (by decide +kernel : kitB "tuple" "list" = some false)
  | dict _ => exact (by decide +kernel : kitB "dict" "list" = some false)
def pTuple : PyData → Bool
  | .tuple _ => true
  | _ => false
theorem kit_tuple (d : PyData) : kitB (tyNm d) "tuple" = some (pTuple d) := by
  cases d with
  | none => exact (by decide +kernel : kitB "NoneType" "tuple" = some false)
  | bool _ => exact (by decide +kernel : kitB "bool" "tuple" = some false)
  | int _ => exact (by decide +kernel : kitB "int" "tuple" = some false)
  | str _ => exact (by decide +kernel : kitB "str" "tuple" = some false)
  | list _ => exact (by decide +kernel : kitB "list" "tuple" = some false)
  | tuple _ => exact (by decide +kernel : kitB "tuple" "tuple" = some true)
  | dict _ => exact (by decide +kernel : kitB "dict" "tuple" = some false)
theorem tuple_or (d : PyData) : (∃ ds, d = .tuple ds) ∨ pTuple d = false := by
  cases d with
  | tuple ds => exact .inl ⟨_, rfl⟩
  | _ => exact .inr rfl
theorem str_or (d : PyData) : (∃ x, d = .str x) ∨ pStr d = false := by
  cases d with
  | str ds => exact .inl ⟨_, rfl⟩
  | _ => exact .inr rfl
theorem list_or (d : PyData) : (∃ x, d = .list x) ∨ pList d = false := by
  cases d with
  | list ds => exact .inl ⟨_, rfl⟩
  | _ => exact .inr rfl
/-! ### a tuple unpacked -/
section
variable {K : PySem.W.Frag} {H : Hp} {σ : L2.St} {Q : L2.St → Hp → Prop} {a : Addr} {xs : List V} {n : Nat} {t : TGs} {g : TG} {v : V}
theorem go_gtup (h : SqT K H a xs) (hl : xs.length = n) (k : t xs σ H Q) : gTup K n t (.ref a) σ H Q := ⟨a, xs, rfl, h, hl, k⟩
theorem go_gcons (k : g v σ H fun σ' H' => t xs σ' H' Q) : gCons g t (v :: xs) σ H Q := ⟨v, xs, rfl, k⟩
theorem go_gnil (k : Q σ H) : gNil [] σ H Q := ⟨rfl, k⟩
end
theorem Dq.tupleAt {H : Hp} {x : V} {ds : List PyData} (h : Dq H x (.tuple ds)) : ∃ a xs, x = .ref a ∧ Rd H a (.tup xs) ∧ DqAll H xs ds := by
  cases h with
  | tup h1 h2 => exact ⟨_, _, rfl, h1, h2⟩
theorem Dq.listAt {H : Hp} {x : V} {ds : List PyData} (h : Dq H x (.list ds)) : ∃ a xs, x = .ref a ∧ Rd H a (.lst xs) ∧ DqAll H xs ds := by
  cases h with
  | lst h1 h2 => exact ⟨_, _, rfl, h1, h2⟩
/-! ### a def called by keywords alone -/
def HasK (P : Program) (w : World) (K : PySem.W.Frag) (mg : Str → Option Value) (base : Heap) (k : Nat) (x : Str) (ks : List Str) (g : List Value → List Value) (gV : List V → List V) (sp : Sp) : Prop :=
  ∃ (f : Addr) (fd : FuncData) (ps : List Str), FnOk P w K mg base CX0 k f fd ps sp ∧ mg x = some (.ref f) ∧ PySem.W.keepIn K (.ref f) = true ∧ KBn K fd ps 0 ks (fun _ ws => g ws) (fun _ zs => gV zs)
def tKw (n : Nat) (sp : Sp) (gV : List V → List V) (tk : TA) : TE := fun σ H Q => tk σ H fun zs H2 => zs.length = n ∧ sp (gV zs) H2 Q E0
section
variable {X : Cx} {k n : Nat} {sp : Sp} {x : Str} {p pos : Pos} {kws : List Keyword} {tk : TA} {ks : List Str} {g : List Value → List Value} {gV : List V → List V}
theorem pe_kw (h : HasK X.prog X.w X.K X.mg X.base k x ks g gV sp) (hr : Room n X.A) (hg : Gl X x) (hkw : PK X kws tk) (hkn : k ≤ n := by decide)
    (hall : (backToKw pos (keywordEach kws X.env)).all (·.1.isSome) = true := by rfl) (hks : (backToKw pos (keywordEach kws X.env)).filterMap (·.1) = ks := by rfl) (hdb : (x == ("__debug__" : Str)) = false := by decide)
    (hpl : ((backTo pos (starEach [] X.env)).any (·.1) || (backToKw pos (keywordEach kws X.env)).any (·.1.isNone)) = false := by rfl) :
    PE X (.Call (.Name x p) [] kws pos) (tKw ks.length sp gV tk) := by
  obtain ⟨f, fd, ps, F, hm, hk, hb⟩ := h
  refine ⟨fun pins s σ H Q I h => ?_⟩
  refine wpAny_Call_Name_kw (ld_glob I hg hm ?_ hdb)
  refine PySem.W.callWith_KW0 (h₀ := X.base) I.ok.mod.kin hk hall ?_ hpl
  refine thn (hkw.run pos pins s σ H _ I h) fun ws s2 ⟨zs, H2, I2, rz, l2, q2⟩ => ⟨I2.kIn, ?_⟩
  rw [hks]
  exact run_fnN (us := []) (vs := []) (n := 0) F (hr.mono hkn) hb pass0 I2 .nil rz rfl l2 q2
theorem go_kw {σ : L2.St} {H : Hp} {Q : VK} (h : tk σ H fun zs H2 => zs.length = n ∧ sp (gV zs) H2 Q E0) : tKw n sp gV tk σ H Q := h
end
end HX

set_option Elab.async false
set_option linter.all false
set_option maxRecDepth 100000
set_option maxHeartbeats 2000000

namespace Kx
open PySem PySem.Spec PyProof.Rows L2 HX
open Evl (Ex)
local macro_rules | `(tactic| walk_at "side") => `(tactic| first | assumption | ((try dsimp only); first | assumption | decide +kernel | omega | exact ⟨by decide, by decide⟩ | (left; decide) | (left; omega) | (refine Or.inl ⟨?_, ?_⟩ <;> omega) | (refine Or.inr ⟨?_, ?_⟩ <;> omega)))
local macro_rules | `(tactic| walk_at "heap") => `(tactic| first | assumption | exact upd_same | exact Or.inl (by assumption) | exact Or.inl upd_same)
local macro_rules | `(tactic| walk_at "item") => `(tactic| first | exact rfl | exact atI_nat (j := 0) rfl | exact atI_nat (j := 1) rfl | exact atI_nat (j := 2) rfl | assumption)
local macro_rules | `(tactic| walk_at "rd") => `(tactic| repeat (first
  | ((with_reducible refine' go_var ?hv ?_); (case hv => exact rfl))
  | with_reducible refine' go_c ?_
  | with_reducible refine' go_op ?_
  | with_reducible refine' go_seq ?_
  | with_reducible refine' go_asg ?_
  | with_reducible refine' go_name ?_
  | with_reducible refine' go_cons ?_
  | with_reducible refine' go_nil ?_
  | with_reducible refine' go_cb ?_
  | with_reducible refine' go_call ?_
  | with_reducible refine' go_ifS ?_
  | with_reducible refine' go_test ?_
  | with_reducible refine' go_bl ?_
  | with_reducible refine' go_ret ?_
  | with_reducible refine' go_I0 ?_
  | ((with_reducible refine' go_I ?cc ?_); (case cc => walk_at "side"))
  | ((with_reducible refine' go_ixL ?hh ?hk ?_); (case hh => walk_at "heap"); (case hk => walk_at "item"))
  | ((with_reducible refine' go_ixT ?hh ?hk ?_); (case hh => walk_at "heap"); (case hk => walk_at "item"))
  | ((with_reducible refine' go_lenL ?hh ?_); (case hh => walk_at "heap"))
  | ((with_reducible refine' go_lenT ?hh ?_); (case hh => walk_at "heap"))
  | ((with_reducible refine' go_setL ?hh ?hk ?_); (case hh => walk_at "heap"); (case hk => walk_at "item"))
  | with_reducible refine' go_abs ?_
  | with_reducible refine' go_max ?_
  | with_reducible refine' go_min ?_
  | with_reducible refine' go_int ?_
  | with_reducible refine' go_intB ?_
  | (with_reducible refine' go_eq rfl ?_)
  | (with_reducible refine' go_ne rfl ?_)
  | with_reducible refine' go_isN ?_
  | with_reducible refine' go_notN ?_
  | with_reducible refine' go_if ?_
  | with_reducible refine' go_sub ?_
  | with_reducible refine' go_par ?_
  | with_reducible refine' go_sl ?_
  | with_reducible refine' go_part ?_
  | with_reducible refine' go_pint ?_
  | with_reducible refine' go_nopart ?_
  | ((with_reducible refine' go_lenL ?hh ?_); (case hh => walk_at "heap"))
  | ((with_reducible refine' go_lenT ?hh ?_); (case hh => walk_at "heap"))
  | ((with_reducible refine' go_lenS ?hh ?_); (case hh => assumption))
  | with_reducible refine' go_gcons ?_
  | with_reducible refine' go_gnil ?_
  | with_reducible refine' go_kw ?_
  | with_reducible refine' go_par2 ?_
  | with_reducible refine' go_next ?_
  | with_reducible refine' go_drop ?_
  | with_reducible refine' go_and ?_
  | with_reducible refine' go_or ?_
  | with_reducible refine' go_not ?_
  | with_reducible refine' go_B ?_
  | with_reducible refine' go_andV ?_
  | with_reducible refine' go_orV ?_
  | with_reducible refine' go_notV ?_
  | with_reducible refine' go_chain ?_
  | with_reducible refine' go_un ?_
  | with_reducible refine' go_U ?_
  | with_reducible refine' go_bm ?_
  | with_reducible refine' go_tup ?_
  | with_reducible refine' go_lst ?_
  | with_reducible refine' go_forR1 ?_
  | with_reducible refine' go_forR2 ?_
  | with_reducible refine' go_forL ?_
  | with_reducible refine' go_forT ?_
  | with_reducible refine' go_forE ?_
  | with_reducible refine' go_lcR1 ?_
  | with_reducible refine' go_lcL ?_
  | with_reducible refine' go_lcT ?_
  | ((with_reducible refine' go_tyL ?hh ?_); (case hh => walk_at "heap"))
  | ((with_reducible refine' go_new ?hz ?_); (case hz => exact Nat.le_of_ble_eq_true rfl))
  | (with_reducible refine' ⟨_, rfl, ?_⟩)
  ))
--MACEND
def isInt : PyData → Bool
  | .int _ => true
  | _ => false
def isNat : PyData → Bool
  | .int i => decide (0 ≤ i)
  | _ => false
def isBand : PyData → Bool
  | .tuple [.int a, .int b] => decide (0 ≤ a) && decide (0 ≤ b) && decide (a ≤ b)
  | _ => false
def isStage : PyData → Bool
  | .tuple (.str k :: d :: ds) => if k = "mix" then ds.isEmpty && isNat d else if k = "dial" then ds.isEmpty && isInt d else decide (k = "pass") && isBand (.tuple (d :: ds))
  | _ => false
def isRate : PyData → Bool
  | .none => true
  | .int i => decide (2 ≤ i)
  | _ => false
def isFrame : PyData → Bool
  | .tuple [.list ss, _] => decide (1 ≤ ss.length) && decide (ss.length ≤ 8)
  | _ => false
/-- a look at one thing -/
def spLook (f : PyData → Bool) : Sp := fun vs H Q _ => ∃ x d, vs = [x] ∧ Dq H x d ∧ ∀ H', Ex H H' → Q (.bl (f d)) H'
theorem look_go {f : PyData → Bool} {x : V} {d : PyData} {H : Hp} {Q : VK} {E : XK} (h : Dq H x d) (k : ∀ H', Ex H H' → Q (.bl (f d)) H') : spLook f ([x] ++ []) H Q E := ⟨x, d, rfl, h, k⟩
section
variable {P : Program} {w : World} {K : PySem.W.Frag} {mg : Str → Option Value} {base : Heap}
abbrev s_is_integer : Stmt := top 12
theorem sc_is_integer : FnScope ["value"] ["value"] (defScope s_is_integer) := ⟨rfl, rfl, rfl, by decide +kernel, rfl, by decide +kernel, by decide +kernel⟩
theorem ok_is_integer {f : Addr} {fd : FuncData} (F : Fun K "is_integer" "is_integer" s_is_integer f fd) (m_isinstance : mg "isinstance" = none) (m_int : mg "int" = none) (m_bool : mg "bool" = none) :
    FnOk P w K mg base CX0 1 f fd ["value"] (spLook isInt) := by
  refine F.ok sc_is_integer (fun vs H Q E h => ?_) (fun cdv A outer s H vs Q E hr h => ?_)
  · obtain ⟨x, d, rfl, _⟩ := h
    rfl
  · obtain ⟨x, d, rfl, hd, k⟩ := h
    refine ⟨_, (pss_one (ps_ret (pe_and (pe_callB call_isi rfl m_isinstance (by decide +kernel) (pa_cons (pv 0) (pa_cons (pe_bltn (v := .ty "int") (u := .type "int") rfl m_int (by decide +kernel) rfl) pa_nil))) (pe_one (pe_not (pe_callB call_isi rfl m_isinstance (by decide +kernel) (pa_cons (pv 0) (pa_cons (pe_bltn (v := .ty "bool") (u := .type "bool") rfl m_bool (by decide +kernel) rfl) pa_nil)))))))), ?_⟩
    walk_at "rd"
    refine go_isi hd (kit_int d) ?_
    walk_at "rd"
    have two : isInt d = !pBool d → rIsi K [x, .ty "bool"] H fun v H' => ∃ c, v = .bl c ∧ Q (.bl (!c)) H' := fun e =>
      go_isi hd (kit_bool d) ⟨_, rfl, by rw [← e]; exact k H (Ex.refl H)⟩
    cases d with
    | int i =>
      refine iteT ?_
      walk_at "rd"
      exact two rfl
    | bool b =>
      refine iteT ?_
      walk_at "rd"
      exact two rfl
    | none => exact iteF (k _ (Ex.refl _))
    | str y => exact iteF (k _ (Ex.refl _))
    | list ds => exact iteF (k _ (Ex.refl _))
    | tuple ds => exact iteF (k _ (Ex.refl _))
    | dict ds => exact iteF (k _ (Ex.refl _))
abbrev s_is_natural : Stmt := top 13
theorem sc_is_natural : FnScope ["value"] ["value"] (defScope s_is_natural) := ⟨rfl, rfl, rfl, by decide +kernel, rfl, by decide +kernel, by decide +kernel⟩
theorem ok_is_natural {f : Addr} {fd : FuncData} (F : Fun K "is_natural" "is_natural" s_is_natural f fd) (h_is_integer : Has P w K mg base 1 "is_integer" (spLook isInt)) :
    FnOk P w K mg base CX0 2 f fd ["value"] (spLook isNat) := by
  refine F.ok sc_is_natural (fun vs H Q E h => ?_) (fun cdv A outer s H vs Q E hr h => ?_)
  · obtain ⟨x, d, rfl, _⟩ := h
    rfl
  · obtain ⟨x, d, rfl, hd, k⟩ := h
    refine ⟨_, (pss_one (ps_ret (pe_and (pe_hs h_is_integer hr rfl (pa_cons (pv 0) pa_nil)) (pe_one (pe_cmpR op_ge (pv 0) pe_int (nomark _)))))), ?_⟩
    walk_at "rd"
    refine look_go hd fun H1 e1 => ?_
    walk_at "rd"
    cases d with
    | int i =>
      cases hd
      refine iteT ?_
      walk_at "rd"
      exact k _ e1
    | bool b => exact iteF (k _ e1)
    | none => exact iteF (k _ e1)
    | str y => exact iteF (k _ e1)
    | list ds => exact iteF (k _ e1)
    | tuple ds => exact iteF (k _ e1)
    | dict ds => exact iteF (k _ e1)
theorem nat_int {d : PyData} (h : isNat d = true) : ∃ i : Int, d = .int i ∧ 0 ≤ i := by
  cases d <;> simp [isNat] at h
  exact ⟨_, rfl, h⟩
theorem dqa2 {H : Hp} {vs : List V} {ds : List PyData} (h : DqAll H vs ds) (hl : ds.length = 2) : ∃ a b d e, vs = [a, b] ∧ ds = [d, e] ∧ Dq H a d ∧ Dq H b e := by
  cases h with
  | nil => simp at hl
  | cons h1 h2 => cases h2 with
    | nil => simp at hl
    | cons h3 h4 => cases h4 with
      | nil => exact ⟨_, _, _, _, rfl, rfl, h1, h3⟩
      | cons _ _ => simp at hl
abbrev s_is_band : Stmt := top 14
theorem sc_is_band : FnScope ["value", "least", "greatest"] ["value"] (defScope s_is_band) := ⟨rfl, rfl, rfl, by decide +kernel, rfl, by decide +kernel, by decide +kernel⟩
theorem ok_is_band {f : Addr} {fd : FuncData} (F : Fun K "is_band" "is_band" s_is_band f fd) (m_isinstance : mg "isinstance" = none) (m_tuple : mg "tuple" = none) (m_len : mg "len" = none) (h_is_natural : Has P w K mg base 2 "is_natural" (spLook isNat)) :
    FnOk P w K mg base CX0 3 f fd ["value"] (spLook isBand) := by
  refine F.ok sc_is_band (fun vs H Q E h => ?_) (fun cdv A outer s H vs Q E hr h => ?_)
  · obtain ⟨x, d, rfl, _⟩ := h
    rfl
  · obtain ⟨x, d, rfl, hd, k⟩ := h
    refine ⟨_, (pss_cons (ps_if (PW.pt (pw_or (pt_not (pt_val (pe_callB call_isi rfl m_isinstance (by decide +kernel) (pa_cons (pv 0) (pa_cons (pe_bltn (v := .ty "tuple") (u := .type "tuple") rfl m_tuple (by decide +kernel) rfl) pa_nil))))) (pw_or1 (pt_cmpR op_ne (pe_callB call_lenQ rfl m_len PySem.boot_len (pa_cons (pv 0) pa_nil)) pe_int (nomark _)))))
  (pss_one (ps_ret pe_bl))
  pss_nil)
  (pss_cons (ps_asg (pv 0) (pg_tup (by rfl) (pgs_cons (pg_name (i := 1) sc_is_band.nd rfl (Or.inl rfl)) (pgs_cons (pg_name (i := 2) sc_is_band.nd rfl (Or.inl rfl)) pgs_nil))))
  (pss_one (ps_ret (pe_and (pe_hs h_is_natural hr rfl (pa_cons (pv 1) pa_nil)) (pe_and (pe_hs h_is_natural hr rfl (pa_cons (pv 2) pa_nil)) (pe_one (pe_cmpR op_le (pv 1) (pv 2) (nomark _))))))))), ?_⟩
    walk_at "rd"
    refine go_isi hd (kit_tuple d) ?_
    walk_at "rd"
    rcases tuple_or d with ⟨ds, rfl⟩ | hn
    · obtain ⟨a, xs, rfl, ha, hda⟩ := hd.tupleAt
      have hl := hda.len
      refine iteF ?_
      walk_at "rd"
      by_cases h2 : ds.length = 2
      · obtain ⟨b, c, d, e, rfl, rfl, hb, hc⟩ := dqa2 hda h2
        refine iteNS rfl ?_
        walk_at "rd"
        refine go_gtup (.inl ha) rfl ?_
        walk_at "rd"
        refine look_go hb fun H1 e1 => ?_
        walk_at "rd"
        cases hd1 : isNat d with
        | false =>
          refine iteF ?_
          have e : isBand (.tuple [d, e]) = false := by
            cases d <;> cases e <;> simp [isBand, isNat] at *
            omega
          rw [← e]
          exact k _ e1
        | true =>
          obtain ⟨i, rfl, hi⟩ := nat_int hd1
          refine iteT ?_
          walk_at "rd"
          refine look_go (hc.ex e1) fun H2 e2 => ?_
          walk_at "rd"
          cases hd2 : isNat e with
          | false =>
            refine iteF ?_
            have e : isBand (.tuple [.int i, e]) = false := by
              cases e <;> simp [isBand, isNat] at *
              omega
            rw [← e]
            exact k _ (e1.trans e2)
          | true =>
            obtain ⟨j, rfl, hj⟩ := nat_int hd2
            cases hb
            cases hc
            refine iteT ?_
            walk_at "rd"
            have e : isBand (.tuple [.int i, .int j]) = decide (i ≤ j) := by simp [isBand, hi, hj]
            rw [← e]
            exact k _ (e1.trans e2)
      · have hne : (!decide (V.int (xs.length : Int) = V.int 2)) = true := by
          simp
          omega
        rw [hne]
        refine iteT ?_
        walk_at "rd"
        have e : isBand (.tuple ds) = false := by
          match ds, h2 with
          | [], _ => rfl
          | [x], _ => cases x <;> rfl
          | [_, _], h => exact absurd rfl h
          | x :: y :: _ :: _, _ => cases x <;> first | rfl | (cases y <;> rfl)
        rw [← e]
        exact k _ (Ex.refl _)
    · rw [hn]
      refine iteT (iteT ?_)
      walk_at "rd"
      have e : isBand d = false := by cases d <;> first | rfl | simp [pTuple] at hn
      rw [← e]
      exact k _ (Ex.refl _)
abbrev s_is_stage : Stmt := top 15
theorem sc_is_stage : FnScope ["value", "kind"] ["value"] (defScope s_is_stage) := ⟨rfl, rfl, rfl, by decide +kernel, rfl, by decide +kernel, by decide +kernel⟩
theorem ok_is_stage {f : Addr} {fd : FuncData} (F : Fun K "is_stage" "is_stage" s_is_stage f fd) (m_isinstance : mg "isinstance" = none) (m_tuple : mg "tuple" = none) (m_str : mg "str" = none) (m_len : mg "len" = none)
    (h_is_integer : Has P w K mg base 1 "is_integer" (spLook isInt)) (h_is_natural : Has P w K mg base 2 "is_natural" (spLook isNat)) (h_is_band : Has P w K mg base 3 "is_band" (spLook isBand)) :
    FnOk P w K mg base CX0 4 f fd ["value"] (spLook isStage) := by
  refine F.ok sc_is_stage (fun vs H Q E h => ?_) (fun cdv A outer s H vs Q E hr h => ?_)
  · obtain ⟨x, d, rfl, _⟩ := h
    rfl
  · obtain ⟨x, d, rfl, hd, k⟩ := h
    refine ⟨_, (pss_cons (ps_if (PW.pt (pw_or (pt_not (pt_val (pe_callB call_isi rfl m_isinstance (by decide +kernel) (pa_cons (pv 0) (pa_cons (pe_bltn (v := .ty "tuple") (u := .type "tuple") rfl m_tuple (by decide +kernel) rfl) pa_nil))))) (pw_or (pt_cmpR op_lt (pe_callB call_lenQ rfl m_len PySem.boot_len (pa_cons (pv 0) pa_nil)) pe_int (nomark _)) (pw_or1 (pt_not (pt_val (pe_callB call_isi rfl m_isinstance (by decide +kernel) (pa_cons (pe_ix ix_tup (pv 0) pe_int (fun _ _ => rfl)) (pa_cons (pe_bltn (v := .ty "str") (u := .type "str") rfl m_str (by decide +kernel) rfl) pa_nil)))))))))
  (pss_one (ps_ret pe_bl))
  pss_nil)
  (pss_cons (ps_set (i := 1) sc_is_stage.nd rfl (Or.inl rfl) (pe_ix ix_tup (pv 0) pe_int (fun _ _ => rfl)))
  (pss_cons (ps_if (pt_cmpR op_eq (pv 1) pe_str (nomark _))
  (pss_one (ps_ret (pe_and (pe_cmpR op_eq (pe_callB call_lenQ rfl m_len PySem.boot_len (pa_cons (pv 0) pa_nil)) pe_int (nomark _)) (pe_one (pe_hs h_is_natural hr rfl (pa_cons (pe_ix ix_tup (pv 0) pe_int (fun _ _ => rfl)) pa_nil))))))
  pss_nil)
  (pss_cons (ps_if (pt_cmpR op_eq (pv 1) pe_str (nomark _))
  (pss_one (ps_ret (pe_and (pe_cmpR op_eq (pe_callB call_lenQ rfl m_len PySem.boot_len (pa_cons (pv 0) pa_nil)) pe_int (nomark _)) (pe_one (pe_hs h_is_integer hr rfl (pa_cons (pe_ix ix_tup (pv 0) pe_int (fun _ _ => rfl)) pa_nil))))))
  pss_nil)
  (pss_one (ps_ret (pe_and (pe_cmpR op_eq (pv 1) pe_str (nomark _)) (pe_one (pe_hs h_is_band hr rfl (pa_cons (pe_slice sl_tup (pv 0) (po_some pe_int) po_none) pa_nil)))))))))), ?_⟩
    have no : isStage d = false → ∀ H', Ex H H' → Q (.bl false) H' := fun e H' e' => by rw [← e]; exact k H' e'
    walk_at "rd"
    refine go_isi hd (kit_tuple d) ?_
    walk_at "rd"
    rcases tuple_or d with ⟨ds, rfl⟩ | hn
    · obtain ⟨a, xs, rfl, ha, hda⟩ := hd.tupleAt
      have hl := hda.len
      refine iteF ?_
      walk_at "rd"
      cases hda with
      | nil =>
        refine iteT (iteT ?_)
        walk_at "rd"
        exact no rfl _ (Ex.refl _)
      | cons q1 hda =>
        rename_i v vs d ds
        cases hda with
        | nil =>
          refine iteT (iteT ?_)
          walk_at "rd"
          refine no ?_ _ (Ex.refl _)
          cases d <;> rfl
        | cons q2 hda =>
          rename_i v2 vs d2 ds
          have hlt : decide (((v :: v2 :: vs).length : Int) < 2) = false := by simp; omega
          rw [hlt]
          refine iteF ?_
          walk_at "rd"
          refine go_isi q1 (kit_str d) ?_
          walk_at "rd"
          rcases str_or d with ⟨nm, rfl⟩ | hn
          · cases q1
            refine iteF ?_
            walk_at "rd"
            have len2 : decide (V.int ((V.str nm :: v2 :: vs).length : Int) = V.int 2) = ds.isEmpty := by
              have := hda.len
              cases ds with
              | nil => cases vs with
                       | nil => rfl
                       | cons _ _ => simp at this
              | cons _ _ => cases vs with
                            | nil => simp at this
                            | cons _ _ => simp; omega
            refine ite2 (fun c => ?_) (fun c => ?_)
            · obtain rfl : nm = "mix" := by simpa using c
              walk_at "rd"
              rw [len2]
              cases he : ds.isEmpty with
              | false =>
                refine iteF (no ?_ _ (Ex.refl _))
                simp [isStage, he]
              | true =>
                refine iteT ?_
                walk_at "rd"
                refine look_go q2 fun H1 e1 => ?_
                have e : isStage (.tuple (.str "mix" :: d2 :: ds)) = isNat d2 := by simp [isStage, he]
                rw [← e]
                exact k _ e1
            · have cm : nm ≠ "mix" := by simpa using c
              walk_at "rd"
              refine ite2 (fun c2 => ?_) (fun c2 => ?_)
              · obtain rfl : nm = "dial" := by simpa using c2
                walk_at "rd"
                rw [len2]
                cases he : ds.isEmpty with
                | false =>
                  refine iteF (no ?_ _ (Ex.refl _))
                  simp [isStage, he]
                | true =>
                  refine iteT ?_
                  walk_at "rd"
                  refine look_go q2 fun H1 e1 => ?_
                  have e : isStage (.tuple (.str "dial" :: d2 :: ds)) = isInt d2 := by simp [isStage, he, cm]
                  rw [← e]
                  exact k _ e1
              · have cd : nm ≠ "dial" := by simpa using c2
                have e : isStage (.tuple (.str nm :: d2 :: ds)) = (decide (nm = "pass") && isBand (.tuple (d2 :: ds))) := by simp [isStage, cm, cd]
                walk_at "rd"
                have en : decide (V.str nm = V.str "pass") = decide (nm = "pass") := by simp
                rw [en]
                cases hp : decide (nm = "pass") with
                | false =>
                  refine iteF (no ?_ _ (Ex.refl _))
                  rw [e, hp]
                  rfl
                | true =>
                  refine iteT ?_
                  walk_at "rd"
                  obtain ⟨t1, t2⟩ := cut_tail (V.str nm) (v2 :: vs)
                  refine go_slT ha t2 fun p hp' => ?_
                  rw [t1]
                  walk_at "rd"
                  have en := Ex.new (o := HO.tup (v2 :: vs)) hp'
                  refine look_go (d := .tuple (d2 :: ds)) (.tup (.inl upd_same) (.cons (q2.ex en) (hda.ex en))) fun H1 e1 => ?_
                  have e' : isStage (.tuple (.str nm :: d2 :: ds)) = isBand (.tuple (d2 :: ds)) := by rw [e, hp]; rfl
                  rw [← e']
                  exact k _ (en.trans e1)
          · rw [hn]
            refine iteT ?_
            walk_at "rd"
            refine no ?_ _ (Ex.refl _)
            cases d <;> first | rfl | simp [pStr] at hn
    · rw [hn]
      refine iteT (iteT ?_)
      walk_at "rd"
      refine no ?_ _ (Ex.refl _)
      cases d <;> first | rfl | simp [pTuple] at hn
abbrev s_is_rate : Stmt := top 16
theorem sc_is_rate : FnScope ["value"] ["value"] (defScope s_is_rate) := ⟨rfl, rfl, rfl, by decide +kernel, rfl, by decide +kernel, by decide +kernel⟩
theorem ok_is_rate {f : Addr} {fd : FuncData} {t : Tok} (F : Fun K "is_rate" "is_rate" s_is_rate f fd) (g_LEAST_RATE : mg "LEAST_RATE" = some (.int 2 t)) (h_is_integer : Has P w K mg base 1 "is_integer" (spLook isInt)) :
    FnOk P w K mg base CX0 2 f fd ["value"] (spLook isRate) := by
  refine F.ok sc_is_rate (fun vs H Q E h => ?_) (fun cdv A outer s H vs Q E hr h => ?_)
  · obtain ⟨x, d, rfl, _⟩ := h
    rfl
  · obtain ⟨x, d, rfl, hd, k⟩ := h
    refine ⟨_, (pss_one (ps_ret (pe_or (pe_cmpR op_isN1 (pv 0) pe_non (nomark _)) (pe_one (pe_and (pe_hs h_is_integer hr rfl (pa_cons (pv 0) pa_nil)) (pe_one (pe_cmpR op_ge (pv 0) (pe_glob (v := .int 2) rfl g_LEAST_RATE ⟨_, rfl⟩) (nomark _)))))))), ?_⟩
    walk_at "rd"
    cases hd with
    | non => exact iteT (k _ (Ex.refl _))
    | int i =>
      refine iteF ?_
      walk_at "rd"
      refine look_go (.int i) fun H1 e1 => ?_
      walk_at "rd"
      refine iteT ?_
      walk_at "rd"
      exact k _ e1
    | bl b =>
      refine iteF ?_
      walk_at "rd"
      refine look_go (.bl b) fun H1 e1 => ?_
      walk_at "rd"
      exact iteF (k _ e1)
    | str b =>
      refine iteF ?_
      walk_at "rd"
      refine look_go (.str b) fun H1 e1 => ?_
      walk_at "rd"
      exact iteF (k _ e1)
    | lst h1 h2 =>
      refine iteF ?_
      walk_at "rd"
      refine look_go (.lst h1 h2) fun H1 e1 => ?_
      walk_at "rd"
      exact iteF (k _ e1)
    | tup h1 h2 =>
      refine iteF ?_
      walk_at "rd"
      refine look_go (.tup h1 h2) fun H1 e1 => ?_
      walk_at "rd"
      exact iteF (k _ e1)
    | dic h1 =>
      refine iteF ?_
      walk_at "rd"
      refine look_go (.dic h1) fun H1 e1 => ?_
      walk_at "rd"
      exact iteF (k _ e1)
abbrev s__is_frame : Stmt := top 17
theorem sc__is_frame : FnScope ["value"] ["value"] (defScope s__is_frame) := ⟨rfl, rfl, rfl, by decide +kernel, rfl, by decide +kernel, by decide +kernel⟩
theorem ok_is_frame {f : Addr} {fd : FuncData} {t : Tok} (F : Fun K "_is_frame" "_is_frame" s__is_frame f fd) (m_isinstance : mg "isinstance" = none) (m_tuple : mg "tuple" = none) (m_list : mg "list" = none) (m_len : mg "len" = none) (g_MOST_STAGES : mg "MOST_STAGES" = some (.int 8 t)) :
    FnOk P w K mg base CX0 1 f fd ["value"] (spLook isFrame) := by
  refine F.ok sc__is_frame (fun vs H Q E h => ?_) (fun cdv A outer s H vs Q E hr h => ?_)
  · obtain ⟨x, d, rfl, _⟩ := h
    rfl
  · obtain ⟨x, d, rfl, hd, k⟩ := h
    refine ⟨_, (pss_cons (ps_if (PW.pt (pw_or (pt_not (pt_val (pe_callB call_isi rfl m_isinstance (by decide +kernel) (pa_cons (pv 0) (pa_cons (pe_bltn (v := .ty "tuple") (u := .type "tuple") rfl m_tuple (by decide +kernel) rfl) pa_nil))))) (pw_or1 (pt_cmpR op_ne (pe_callB call_lenQ rfl m_len PySem.boot_len (pa_cons (pv 0) pa_nil)) pe_int (nomark _)))))
  (pss_one (ps_ret pe_bl))
  pss_nil)
  (pss_one (ps_ret (pe_and (pe_callB call_isi rfl m_isinstance (by decide +kernel) (pa_cons (pe_ix ix_tup (pv 0) pe_int (fun _ _ => rfl)) (pa_cons (pe_bltn (v := .ty "list") (u := .type "list") rfl m_list (by decide +kernel) rfl) pa_nil))) (pe_one (pe_chain op_le op_le pe_int (pe_callB call_lenQ rfl m_len PySem.boot_len (pa_cons (pe_ix ix_tup (pv 0) pe_int (fun _ _ => rfl)) pa_nil)) (pe_glob (v := .int 8) rfl g_MOST_STAGES ⟨_, rfl⟩))))))), ?_⟩
    have no : isFrame d = false → Q (.bl false) H := fun e => by rw [← e]; exact k H (Ex.refl H)
    walk_at "rd"
    refine go_isi hd (kit_tuple d) ?_
    walk_at "rd"
    rcases tuple_or d with ⟨ds, rfl⟩ | hn
    · obtain ⟨a, xs, rfl, ha, hda⟩ := hd.tupleAt
      have hl := hda.len
      refine iteF ?_
      walk_at "rd"
      by_cases h2 : ds.length = 2
      · obtain ⟨b, c, d, e, rfl, rfl, hb, hc⟩ := dqa2 hda h2
        refine iteNS rfl ?_
        walk_at "rd"
        refine go_isi hb (kit_list d) ?_
        walk_at "rd"
        rcases list_or d with ⟨ss, rfl⟩ | hn
        · obtain ⟨a2, ys, rfl, ha2, hda2⟩ := hb.listAt
          refine iteT ?_
          walk_at "rd"
          have hl2 := hda2.len
          cases h1 : decide (1 ≤ (ys.length : Int)) with
          | false =>
            refine iteF (no ?_)
            have : ss.length = 0 := by simp at h1; omega
            simp [isFrame, this]
          | true =>
            refine iteT ?_
            walk_at "rd"
            have e : isFrame (.tuple [.list ss, e]) = decide ((ys.length : Int) ≤ 8) := by
              have : 1 ≤ ss.length := by simp at h1; omega
              simp [isFrame, this]
              rw [hl2]
              by_cases q : ss.length ≤ 8
              · simp [q]; omega
              · simp [q]; omega
            rw [← e]
            exact k _ (Ex.refl _)
        · rw [hn]
          refine iteF (no ?_)
          cases d <;> first | rfl | simp [pList] at hn
      · have hne : (!decide (V.int (xs.length : Int) = V.int 2)) = true := by
          simp
          omega
        rw [hne]
        refine iteT ?_
        walk_at "rd"
        refine no ?_
        match ds, h2 with
        | [], _ => rfl
        | [x], _ => cases x <;> rfl
        | [_, _], h => exact absurd rfl h
        | x :: y :: _ :: _, _ => cases x <;> rfl
    · rw [hn]
      refine iteT (iteT ?_)
      walk_at "rd"
      refine no ?_
      cases d <;> first | rfl | simp [pTuple] at hn
/-- a look that passes: nothing is raised -/
def spCheck (f : PyData → Bool) : Sp := fun vs H Q _ => ∃ x d, vs = [x] ∧ Dq H x d ∧ f d = true ∧ ∀ H', Ex H H' → Q .non H'
theorem check_go {f : PyData → Bool} {x : V} {d : PyData} {H : Hp} {Q : VK} {E : XK} (h : Dq H x d) (hf : f d = true) (k : ∀ H', Ex H H' → Q .non H') : spCheck f ([x] ++ []) H Q E := ⟨x, d, rfl, h, hf, k⟩
end
end Kx

set_option Elab.async false
set_option linter.all false
set_option maxRecDepth 100000
set_option maxHeartbeats 2000000

namespace Kx
open PySem PySem.Spec PyProof.Rows L2 HX
open Evl (Ex)
local macro_rules | `(tactic| walk_at "side") => `(tactic| first | assumption | ((try dsimp only); first | assumption | decide +kernel | omega | exact ⟨by decide, by decide⟩ | (left; decide) | (left; omega) | (refine Or.inl ⟨?_, ?_⟩ <;> omega) | (refine Or.inr ⟨?_, ?_⟩ <;> omega)))
local macro_rules | `(tactic| walk_at "heap") => `(tactic| first | assumption | exact upd_same | exact Or.inl (by assumption) | exact Or.inl upd_same)
local macro_rules | `(tactic| walk_at "item") => `(tactic| first | exact rfl | exact atI_nat (j := 0) rfl | exact atI_nat (j := 1) rfl | exact atI_nat (j := 2) rfl | assumption)
local macro_rules | `(tactic| walk_at "rd") => `(tactic| repeat (first
  | ((with_reducible refine' go_var ?hv ?_); (case hv => exact rfl))
  | with_reducible refine' go_c ?_
  | with_reducible refine' go_op ?_
  | with_reducible refine' go_seq ?_
  | with_reducible refine' go_asg ?_
  | with_reducible refine' go_name ?_
  | with_reducible refine' go_cons ?_
  | with_reducible refine' go_nil ?_
  | with_reducible refine' go_cb ?_
  | with_reducible refine' go_call ?_
  | with_reducible refine' go_ifS ?_
  | with_reducible refine' go_test ?_
  | with_reducible refine' go_bl ?_
  | with_reducible refine' go_ret ?_
  | with_reducible refine' go_I0 ?_
  | ((with_reducible refine' go_I ?cc ?_); (case cc => walk_at "side"))
  | ((with_reducible refine' go_ixL ?hh ?hk ?_); (case hh => walk_at "heap"); (case hk => walk_at "item"))
  | ((with_reducible refine' go_ixT ?hh ?hk ?_); (case hh => walk_at "heap"); (case hk => walk_at "item"))
  | ((with_reducible refine' go_lenL ?hh ?_); (case hh => walk_at "heap"))
  | ((with_reducible refine' go_lenT ?hh ?_); (case hh => walk_at "heap"))
  | ((with_reducible refine' go_setL ?hh ?hk ?_); (case hh => walk_at "heap"); (case hk => walk_at "item"))
  | with_reducible refine' go_abs ?_
  | with_reducible refine' go_max ?_
  | with_reducible refine' go_min ?_
  | with_reducible refine' go_int ?_
  | with_reducible refine' go_intB ?_
  | (with_reducible refine' go_eq rfl ?_)
  | (with_reducible refine' go_ne rfl ?_)
  | with_reducible refine' go_isN ?_
  | with_reducible refine' go_notN ?_
  | with_reducible refine' go_if ?_
  | with_reducible refine' go_sub ?_
  | with_reducible refine' go_par ?_
  | with_reducible refine' go_sl ?_
  | with_reducible refine' go_part ?_
  | with_reducible refine' go_pint ?_
  | with_reducible refine' go_nopart ?_
  | ((with_reducible refine' go_lenL ?hh ?_); (case hh => walk_at "heap"))
  | ((with_reducible refine' go_lenT ?hh ?_); (case hh => walk_at "heap"))
  | ((with_reducible refine' go_lenS ?hh ?_); (case hh => assumption))
  | with_reducible refine' go_gcons ?_
  | with_reducible refine' go_gnil ?_
  | with_reducible refine' go_kw ?_
  | with_reducible refine' go_par2 ?_
  | with_reducible refine' go_next ?_
  | with_reducible refine' go_drop ?_
  | with_reducible refine' go_and ?_
  | with_reducible refine' go_or ?_
  | with_reducible refine' go_not ?_
  | with_reducible refine' go_B ?_
  | with_reducible refine' go_andV ?_
  | with_reducible refine' go_orV ?_
  | with_reducible refine' go_notV ?_
  | with_reducible refine' go_chain ?_
  | with_reducible refine' go_un ?_
  | with_reducible refine' go_U ?_
  | with_reducible refine' go_bm ?_
  | with_reducible refine' go_tup ?_
  | with_reducible refine' go_lst ?_
  | with_reducible refine' go_forR1 ?_
  | with_reducible refine' go_forR2 ?_
  | with_reducible refine' go_forL ?_
  | with_reducible refine' go_forT ?_
  | with_reducible refine' go_forE ?_
  | with_reducible refine' go_lcR1 ?_
  | with_reducible refine' go_lcL ?_
  | with_reducible refine' go_lcT ?_
  | ((with_reducible refine' go_tyL ?hh ?_); (case hh => walk_at "heap"))
  | ((with_reducible refine' go_new ?hz ?_); (case hz => exact Nat.le_of_ble_eq_true rfl))
  | (with_reducible refine' ⟨_, rfl, ?_⟩)
  ))
--MACEND
section
variable {P : Program} {w : World} {K : PySem.W.Frag} {mg : Str → Option Value} {base : Heap}
theorem stg_stage {b : Int} {s : Stg} (h : s.ok b) : isStage s.d = true := by
  have n1 : ¬ ((("dial" : String) : Str) = "mix") := by decide +kernel
  have n2 : ¬ ((("pass" : String) : Str) = "mix") := by decide +kernel
  have n3 : ¬ ((("pass" : String) : Str) = "dial") := by decide +kernel
  cases s with
  | mix lo => simp [Stg.d, isStage, isNat, h.1]
  | dial lo => simp [Stg.d, isStage, isInt, n1]
  | pass lo hi =>
    have : 0 ≤ hi := Int.le_trans h.1 h.2.1
    simp [Stg.d, isStage, isBand, n2, n3, h.1, h.2.1, this]
theorem dqa_get {H : Hp} : ∀ {vs : List V} {ss : List Stg} {i : Nat} {v : V}, DqAll H vs (ss.map Stg.d) → vs[i]? = some v → ∃ s, ss[i]? = some s ∧ Dq H v s.d := fun {vs ss i v} h e => by
  obtain ⟨d, h1, h2⟩ := h.get e
  rw [List.getElem?_map] at h1
  cases q : ss[i]? with
  | none => rw [q] at h1; cases h1
  | some s => rw [q] at h1; cases h1; exact ⟨s, rfl, h2⟩
def spRecv : Sp := fun vs H Q _ => ∃ x b ss rate, vs = [x] ∧ Dq H x (radD ss rate) ∧ Rad b ss rate ∧ ∀ H', Ex H H' → Q .non H'
theorem dials_take {ss : List Stg} {i : Nat} {s : Stg} (h : ss[i]? = some s) (one : dials ss ≤ 1) (hd : s.isDial = true) : dials (ss.take i) = 0 := by
  have hlt : i < ss.length := (List.getElem?_eq_some_iff.mp h).1
  have e : ss = ss.take i ++ s :: ss.drop (i + 1) := by
    have e1 : ss[i] = s := (List.getElem?_eq_some_iff.mp h).2
    conv => lhs; rw [← List.take_append_drop i ss, List.drop_eq_getElem_cons hlt, e1]
  have e2 : dials ss = dials (ss.take i) + dials (s :: ss.drop (i + 1)) := by
    conv => lhs; rw [e]
    unfold dials
    rw [List.filter_append, List.length_append]
  have e3 : 1 ≤ dials (s :: ss.drop (i + 1)) := by
    unfold dials
    rw [List.filter_cons, if_pos hd]
    simp
  omega
theorem dials_more {ss : List Stg} {i : Nat} {s : Stg} (h : ss[i]? = some s) : dials (ss.take (i + 1)) = dials (ss.take i) + (if s.isDial then 1 else 0) := by
  have hlt := (List.getElem?_eq_some_iff.mp h).1
  rw [List.take_succ, h]
  exact dials_app _ _
/-! ### tones -/
/-- what a stage makes of a number -/
def Stg.step (dial : Int) : Stg → Option Int → Option Int
  | _, none => none
  | .mix lo, some n => some (if n - lo < 0 then -(n - lo) else n - lo)
  | .dial a, some n => some (if n - (dial + a) < 0 then -(n - (dial + a)) else n - (dial + a))
  | .pass lo hi, some n => if lo ≤ n ∧ n ≤ hi then some n else none
def sampled (rate : Int) : Option Int → Option Int
  | none => none
  | some n => some (if rate - n % rate < n % rate then rate - n % rate else n % rate)
def tones (dial : Int) : List Stg → Option Int → List (Option Int)
  | [], _ => []
  | s :: ss, n => s.step dial n :: tones dial ss (s.step dial n)
def lastT (dial : Int) : List Stg → Option Int → Option Int
  | [], n => n
  | s :: ss, n => lastT dial ss (s.step dial n)
def allTones (dial : Int) (ss : List Stg) (rate : Option Int) (n : Int) : List (Option Int) :=
  tones dial ss (some n) ++ (match rate with | none => [] | some r => [sampled r (lastT dial ss (some n))])
def optV : Option Int → V
  | none => .non
  | some i => .int i
theorem tones_take (dial : Int) : ∀ (ss : List Stg) (n : Option Int) (i : Nat) (s : Stg), ss[i]? = some s → tones dial (ss.take (i + 1)) n = tones dial (ss.take i) n ++ [s.step dial (lastT dial (ss.take i) n)] ∧ lastT dial (ss.take (i + 1)) n = s.step dial (lastT dial (ss.take i) n)
  | [], _, _, _, h => by simp at h
  | t :: ss, n, 0, s, h => by
    simp at h
    subst h
    simp [tones, lastT]
  | t :: ss, n, i + 1, s, h => by
    have := tones_take dial ss (t.step dial n) i s (by simpa using h)
    simp only [List.take_succ_cons, tones, lastT]
    exact ⟨by rw [this.1]; rfl, this.2⟩
theorem tones_len (dial : Int) : ∀ (ss : List Stg) (n : Option Int), (tones dial ss n).length = ss.length
  | [], _ => rfl
  | s :: ss, n => by simp [tones, tones_len dial ss]
def Stg.center (dial : Int) : Stg → V
  | .mix lo => .int lo
  | .dial a => .int (dial + a)
  | .pass _ _ => .non
def spMixing : Sp := fun vs H Q _ => ∃ (x : V) (s : Stg) (dial : Int), vs = [x, .int dial] ∧ Dq H x s.d ∧ ∀ H', Ex H H' → Q (s.center dial) H'
abbrev s_mixing_tone : Stmt := top 7
theorem sc_mixing_tone : FnScope ["stage", "dial"] ["stage", "dial"] (defScope s_mixing_tone) := ⟨rfl, rfl, rfl, by decide +kernel, rfl, by decide +kernel, by decide +kernel⟩
theorem ok_mixing_tone {f : Addr} {fd : FuncData} (F : Fun K "mixing_tone" "mixing_tone" s_mixing_tone f fd) : FnOk P w K mg base CX0 1 f fd ["stage", "dial"] spMixing := by
  refine F.ok sc_mixing_tone (fun vs H Q E h => ?_) (fun cdv A outer s H vs Q E hr h => ?_)
  · obtain ⟨x, s, dial, rfl, _⟩ := h
    rfl
  · obtain ⟨x, s, dial, rfl, hd, k⟩ := h
    refine ⟨_, (pss_cons (ps_if (pt_cmpR op_eq (pe_ix ix_tup (pv 0) pe_int (fun _ _ => rfl)) pe_str (nomark _))
  (pss_one (ps_ret (pe_ix ix_tup (pv 0) pe_int (fun _ _ => rfl))))
  pss_nil)
  (pss_cons (ps_if (pt_cmpR op_eq (pe_ix ix_tup (pv 0) pe_int (fun _ _ => rfl)) pe_str (nomark _))
  (pss_one (ps_ret (pe_op op_add (pv 1) (pe_ix ix_tup (pv 0) pe_int (fun _ _ => rfl)))))
  pss_nil)
  (pss_one (ps_ret pe_non)))), ?_⟩
    obtain ⟨a, rfl, ha⟩ := stg_at hd
    have n1 : decide (V.str "dial" = V.str "mix") = false := by decide +kernel
    have n2 : decide (V.str "pass" = V.str "mix") = false := by decide +kernel
    have n3 : decide (V.str "pass" = V.str "dial") = false := by decide +kernel
    cases s with
    | mix lo =>
      have ha' : Rd H a (.tup [.str "mix", .int lo]) := ha
      walk_at "rd"
      refine ite2 (fun _ => ?_) (fun c => absurd (decide_eq_true rfl) c)
      walk_at "rd"
      exact k _ (Ex.refl _)
    | dial lo =>
      have ha' : Rd H a (.tup [.str "dial", .int lo]) := ha
      walk_at "rd"
      rw [n1]
      refine iteF ?_
      walk_at "rd"
      refine ite2 (fun _ => ?_) (fun c => absurd (decide_eq_true rfl) c)
      walk_at "rd"
      exact k _ (Ex.refl _)
    | pass lo hi =>
      have ha' : Rd H a (.tup [.str "pass", .int lo, .int hi]) := ha
      walk_at "rd"
      rw [n2]
      refine iteF ?_
      walk_at "rd"
      rw [n3]
      refine iteF ?_
      walk_at "rd"
      exact k _ (Ex.refl _)
def spBehind : Sp := fun vs H Q _ => ∃ (x : V) (s : Stg) (dial : Int) (n : Option Int), vs = [x, .int dial, optV n] ∧ Dq H x s.d ∧ ∀ H', Ex H H' → Q (optV (s.step dial n)) H'
def spSampler : Sp := fun vs H Q _ => ∃ (r : Int) (n : Option Int), vs = [.int r, optV n] ∧ 2 ≤ r ∧ ∀ H', Ex H H' → Q (optV (sampled r n)) H'
abbrev s_behind_sampler : Stmt := top 8
theorem sc_behind_sampler : FnScope ["rate", "number", "above"] ["rate", "number"] (defScope s_behind_sampler) := ⟨rfl, rfl, rfl, by decide +kernel, rfl, by decide +kernel, by decide +kernel⟩
theorem ok_behind_sampler {f : Addr} {fd : FuncData} (F : Fun K "behind_sampler" "behind_sampler" s_behind_sampler f fd) (m_min : mg "min" = none) : FnOk P w K mg base CX0 1 f fd ["rate", "number"] spSampler := by
  refine F.ok sc_behind_sampler (fun vs H Q E h => ?_) (fun cdv A outer s H vs Q E hr h => ?_)
  · obtain ⟨r, n, rfl, _⟩ := h
    rfl
  · obtain ⟨r, n, rfl, h2, k⟩ := h
    refine ⟨_, (pss_cons (ps_if (PW.pt (pw_or (pt_cmpR op_isN1 (pv 1) pe_non (nomark _)) (pw_or1 (pt_cmpR op_isN1 (pv 0) pe_non (nomark _)))))
  (pss_one (ps_ret (pv 1)))
  pss_nil)
  (pss_cons (ps_set (i := 2) sc_behind_sampler.nd rfl (Or.inl rfl) (pe_op op_mod (pv 1) (pv 0)))
  (pss_one (ps_ret (pe_callB (call_minQ rfl) rfl m_min boot_min (pa_cons (pv 2) (pa_cons (pe_op op_sub (pv 0) (pv 2)) pa_nil))))))), ?_⟩
    have h0 : 0 < r := by omega
    cases n with
    | none =>
      walk_at "rd"
      refine ite2 (fun _ => ?_) (fun c => absurd (decide_eq_true rfl) c)
      refine iteT ?_
      walk_at "rd"
      exact k _ (Ex.refl _)
    | some n =>
      have hi : decide (optV (some n) = V.non) = false := by simp [optV]
      have hn : optV (some n) = .int n := rfl
      walk_at "rd"
      rw [hi]
      refine iteF ?_
      walk_at "rd"
      refine ite2 (fun c => absurd (of_decide_eq_true c) (by simp)) (fun _ => ?_)
      walk_at "rd"
      rw [hn]
      walk_at "rd"
      exact k _ (Ex.refl _)
end
end Kx

set_option Elab.async false
set_option linter.all false
set_option maxRecDepth 100000
set_option maxHeartbeats 2000000
/-! an own error over ValueError whose __init__ says super().__init__(text) and then stores one field -/
namespace SupX
open PySem PySem.W PySem.Calls PyProof.Rows PySem.HandSPX
/-! ### the bound __init__ of ValueError, called -/
section
variable {prog : Program} {w : World} {A : Around} {E : Value → Shared → Prop} {h : Heap} {g : Array GenState} {d : Drawn} {t : Nat} {os : OsState}
variable {nm q : Str} {C N : Addr} {bs bm : List Value} {hdct : Bool} {sn : List Str} {sub : List Value} {ab : Bool} {col : Option Bool} {dd : Option Addr} {k0 k1 k2 k3 k5 : Option Value}
theorem call_mw {u e t0 : Addr} {vs : List Value} {Q : Value → Shared → Prop}
    (hC : h.get? C = some (excClassObj nm q C N bs bm hdct sn sub ab col dd k0 k1 k2 k3 k5 "ValueError.__new__"))
    (he : h.get? e = some (excO C t0)) (hu : h.get? u = some (kxs_mw "ValueError.__init__" e)) (hz : vs.length ≤ sizeLine)
    (hq : ∀ h' t1, (∀ b o, b ≠ e → h.get? b = some o → h'.get? b = some o) → h'.get? e = some (excO C t1) → Q .none ⟨h', g, d, t, os⟩) :
    wpAny (model prog w) A (call (.ref u) vs) Q E ⟨h, g, d, t, os⟩ := by
  have c1 : (Value.type "method-wrapper" == Value.type "method" || Value.type "method-wrapper" == Value.type "builtin_function_or_method" || Value.type "method-wrapper" == Value.type "method-wrapper") = true := by decide
  refine wpAny_call ?_
  refine codeAny_of_tree ?_
  show wpAny _ A.in1 (callAny (.ref u) ⟨vs, []⟩) _ _ _
  simp only [callAny]
  refine wpAny_bind ?_
  refine wpAny_load hu ?_
  simp only [kxs_mw, c1, if_true]
  refine KFB.if_so (by decide) ?_
  refine wpAny_bind ?_
  refine check_bound_init F.excBase_ValueError.toExcCallFacts hC he rfl ?_
  refine wpAny_bind (wpAny_pure ?_)
  refine wpAny_pure ?_
  refine ⟨plainId_quiet F.excBase_ValueError.init.plain _, ?_⟩
  refine codeAny_builtin F.excBase_ValueError.initEntry ?_
  rw [Around.under_plainId F.excBase_ValueError.init.plain _]
  wp_walk
  refine hq _ h.objs.size (fun b o hb ho => ?_) ?_
  · rw [Heap.get?_update_other _ _ (Ne.symm hb)]
    exact Heap.get?_push_of_some _ ho
  · rw [Heap.get?_update_self _ (Heap.get?_push_of_some _ he) rfl]
    rfl
end
/-- o.name(e), o told of a known activation -/
theorem at_method {M : Model} {A : Around} {c : Code} {E : Value → Shared → Prop} {s : Shared} {env : Env} {o e : Expr} {name : Str} {apos pos : Pos} {Q : Value → Shared → Prop} (hl : (apos.endLine == pos.line) = true)
    (hf : methodCallForm 1 (backTo pos (starEach [e] env)) [] = true)
    (h : PySem.wpAt M A c (attributeBase o name env (eval o env)) (fun ov s₁ => wpAny M A (getMethod ov name (do return (← importBound o env).getD true)) (fun fx s₂ => wpAny M A (callWith pos fx.1 fx.2 (backTo pos (starEach [e] env)) []) Q E s₂) E s₁) E s) :
    PySem.wpAt M A c (eval (.Call (.Attribute o name apos) [e] [] pos) env) Q E s := by
  have hp : methodCallPos true o env apos pos = pure pos := by unfold methodCallPos; simp [hl]
  rw [arm_eval_Call]
  refine PySem.wpAt_bind (ks_wpAt_mono h (fun ov s₁ h₁ => ?_) fun _ _ z => z)
  refine PySem.wpAt_of_wpAny ?_
  refine wpAny_bind (wpAny_standAt ?_)
  unfold methodCall
  rw [show methodCallForm ([e].length + ([] : List Keyword).length) (backTo pos (starEach [e] env)) (backToKw pos (keywordEach [] env)) = true from hf]
  refine wpAny_bind (wpAny_holding ?_)
  exact wpAny_mono h₁ (fun fx s₂ h₂ => wpAny_bind (wpAny_of_eq hp h₂)) fun _ _ z => z
/-! ### the text of __init__ -/
def iA (f : Str) (p1 p2 : Pos) : Arguments :=
  { posonlyargs := [], args := [{ arg := "self", annotation := none, pos := p1 }, { arg := f, annotation := none, pos := p2 }], vararg := none, kwonlyargs := [], kw_defaults := [], kwarg := none, defaults := [] }
def iB (f msg : Str) (p1 p2 p3 p4 p5 p6 q1 q2 q3 q4 : Pos) : List Stmt :=
  [.Expr (.Call (.Attribute (.Call (.Name "super" p1) [] [] p2) "__init__" p3) [.Constant (.str msg) 0 p4] [] p5) p6, .Assign [.Attribute (.Name "self" q1) f q2] (.Name f q3) q4]
def iS (f : Str) : Scope :=
  { kind := .function, names := [(PySem.Str.ofString "self", .local), (f, .local), (PySem.Str.ofString "__class__", .free), (PySem.Str.ofString "super", .globalImplicit)], isGenerator := false, isCoroutine := false, more := [] }
/-- what the written part says of the error at C and of its __init__ at fI -/
structure ErrTxt (P : Program) (K : Frag) (mg : Str → Option Value) (nmE fld : Str) (C fI : Addr) : Prop where
  okf : fld = "index" ∨ fld = "word"
  gC : mg nmE = some (.ref C)
  cls : ∃ nm q N bs bm sn sub ab col dd k0 k1 k2 k3 k5, K.lookup C = some (excClassObj nm q C N bs bm true sn sub ab col dd k0 k1 k2 k3 k5 "ValueError.__new__") ∧ refsVE bm = true
  sa : findIn K (.ref C) "__setattr__" = some (some (.builtin "object.__setattr__"))
  ga : findIn K (.ref C) "__getattribute__" = some (some (.builtin "BaseException.__getattribute__"))
  gg : findIn K (.ref C) "__getattr__" = some none
  noN : findIn K (.ref C) fld = some none
  iC : findIn K (.ref C) "__init__" = some (some (.ref fI))
  tC : typeIn K (.ref fI) = some (.type "function")
  kC : keepIn K (.ref C) = true
  exC : subIn K (.ref C) (.type "BaseException") = some true
  veC : subIn K (.ref C) (.type "ValueError") = some true
  meC : mroIn K C (.ref C) = some true
  tyC : typeIn K (.ref C) = some (.type "type")
  hdC : hasDictIn K C = true
  te : exmOne K (.ref C) (.ref C) = some true
  sup : ks_superIn K C C "__init__" = some (some (.builtin "ValueError.__init__"))
  op : nsIn K cStatics "thirdparty.any" = some none
  gs : mg "super" = none
  top : (P.main.scope.names.lookup ("super" : Str)).isSome = false
  fn : ∃ (oc : Value) (od : Option Addr) (doc pm : Value) (an : Option Addr) (ct qn : Value) (q : Str) (osl : Array (Option Value)) (msg : Str) (p1 p2 a1 a2 a3 a4 a5 a6 q1 q2 q3 q4 : Pos) (cc cda : Addr)
      (cl : Value) (cld : Option Addr) (csl : Array (Option Value)) (dl : Value) (dld : Option Addr) (dsl : Array (Option Value)) (vs : Array Value) (file : Str) (tf : Tok),
    K.lookup fI = some ⟨oc, od, .func (fnX "__init__" q (iA fld p1 p2) (iB fld msg a1 a2 a3 a4 a5 a6 q1 q2 q3 q4) (iS fld) [("__class__", cc)] .none .none doc pm an (.ref cda) ct), osl⟩ ∧ codeIn K (.ref cda) q = true ∧
      K.lookup cc = some ⟨cl, cld, .cell (some (.ref C)), csl⟩ ∧ K.lookup cda = some ⟨dl, dld, .fields vs, dsl⟩ ∧ vs[2]? = some (.str file tf) ∧ ((P.main.file : Str) == file) = true ∧ (a3.endLine == a5.line) = true
/-- what __init__ leaves of a fresh exception at x -/
structure InitEnd (fld : Str) (h h' : Heap) (x C dx t1 : Addr) (v : Value) : Prop where
  keep : ∀ b o, b ≠ x → h.get? b = some o → h'.get? b = some o
  obj : h'.get? x = some { cls := .ref C, dict := some dx, data := .fields #[.ref t1, .none, .none, .none, .bool false, .none] }
  dbig : h.objs.size ≤ dx
  dne : dx ≠ x
  ns : h'.Ns1 dx (fun y => if y = fld then some v else none)
structure OwnMade (fld : Str) (h h' : Heap) (e C d : Addr) (v : Value) : Prop where
  keep : ∀ b o, h.get? b = some o → h'.get? b = some o
  new : h.objs.size ≤ e
  obj : ∃ t1 : Addr, h'.get? e = some { cls := .ref C, dict := some d, data := .fields #[.ref t1, .none, .none, .none, .bool false, .none] }
  dbig : h.objs.size ≤ d
  dne : d ≠ e
  ns : h'.Ns1 d (fun y => if y = fld then some v else none)
/-- what stands below: the globals, the built-ins -/
structure Gnd (mg : Str → Option Value) (h : Heap) : Prop where
  lim : h.NoLimit
  g : h.Ns mainGlobals mg
  b : ∃ mb, h.Ns builtinsNs mb ∧ ∀ x : Str, x ≠ "__name__" → mb x = bootBuiltins x
theorem Gnd.keeps {mg : Str → Option Value} {h h' : Heap} (G : Gnd mg h) (k : ∀ b o, h.get? b = some o → h'.get? b = some o) : Gnd mg h' :=
  ⟨G.lim.keeps k, G.g.keeps k, let ⟨mb, q1, q2⟩ := G.b; ⟨mb, q1.keeps k, q2⟩⟩
section
variable {P : Program} {w : World} {A : Around} {E : Value → Shared → Prop} {R : Result → Shared → Prop} {s : Shared} {K : Frag} {mg : Str → Option Value} {nmE fld : Str} {C fI : Addr}
theorem sup_init (T : ErrTxt P K mg nmE fld C fI) {x t0 : Addr} {v : Value} {args : Args} (hargs : args = ⟨[.ref x, v], []⟩ ∨ args = ⟨[.ref x], [(fld, v)]⟩) (X : K.In s.heap) (G : Gnd mg s.heap) (hx : s.heap.get? x = some (excO C t0)) (hnx : K.lookup x = none) (hroom : A.depth < recursionLimit)
    (hq : ∀ h' tk dx t1, InitEnd fld s.heap h' x C dx t1 v → R (.ok (.ret .none)) { s with heap := h', toks := tk }) :
    codeAny (model P w) A (.call (.ref fI) args) R s := by
  obtain ⟨oc, od, doc, pm, an, ct, qn, q, osl, msg, p1, p2, a1, a2, a3, a4, a5, a6, q1, q2, q3, q4, cc, cda, cl, cld, csl, dl, dld, dsl, vs, file, tf, ho, hcd, hcc, hcda, hvs, hfile, hln⟩ := T.fn
  obtain ⟨nm, qq, N, bs, bm, sn, sub, ab, col, dd, k0, k1, k2, k3, k5, hC, hbm⟩ := T.cls
  have hcl : clsIn K C = some { name := nm, bases := bs, mro := .ref C :: bm, ns := N, qualname := qq, hasDict := true, slotNames := sn, subclasses := sub, abstract := ab, collection := col, hasDel := false } := by unfold clsIn; rw [hC] <;> rfl
  obtain ⟨lim, gg, mb, gb, hbb⟩ := G
  have main : ∀ (fld : Str), (args = ⟨[.ref x, v], []⟩ ∨ args = ⟨[.ref x], [(fld, v)]⟩) → (fld = "index" ∨ fld = "word") → findIn K (.ref C) fld = some none →
      K.lookup fI = some ⟨oc, od, .func (fnX "__init__" q (iA fld p1 p2) (iB fld msg a1 a2 a3 a4 a5 a6 q1 q2 q3 q4) (iS fld) [("__class__", cc)] .none .none doc pm an (.ref cda) ct), osl⟩ →
      (∀ h' tk dx t1, InitEnd fld s.heap h' x C dx t1 v → R (.ok (.ret .none)) { s with heap := h', toks := tk }) → codeAny (model P w) A (.call (.ref fI) args) R s := by
    intro fld hargs okf noN ho hq
    have kI : (iS fld).names.lookup ("self" : Str) = some .local := rfl
    have kF : (iS fld).names.lookup fld = some .local := by rcases okf with rfl | rfl <;> decide
    have kC : (iS fld).names.lookup ("__class__" : Str) = some .free := by rcases okf with rfl | rfl <;> decide
    have kS : (iS fld).names.lookup ("super" : Str) = some .globalImplicit := by rcases okf with rfl | rfl <;> decide
    have kD : (fld == ("__debug__" : Str)) = false := by rcases okf with rfl | rfl <;> decide
    have bnd : ∀ s, BindsTo s (fnX "__init__" q (iA fld p1 p2) (iB fld msg a1 a2 a3 a4 a5 a6 q1 q2 q3 q4) (iS fld) [("__class__", cc)] .none .none doc pm an (.ref cda) ct) args [("self", .ref x), (fld, v)] := fun s => by
      rcases hargs with rfl | rfl <;> rcases okf with rfl | rfl <;> exact BindsTo.of_eq rfl
    have lkF : ([("self", Value.ref x), (fld, v)] : List (Str × Value)).reverse.lookup fld = some v := by simp [List.lookup]
    have lkS : ([("self", Value.ref x), (fld, v)] : List (Str × Value)).reverse.lookup ("self" : Str) = some (Value.ref x) := by rcases okf with rfl | rfl <;> rfl
    refine ks_codeAny_call_defAt (fd := fnX "__init__" q (iA fld p1 p2) (iB fld msg a1 a2 a3 a4 a5 a6 q1 q2 q3 q4) (iS fld) [("__class__", cc)] .none .none doc pm an (.ref cda) ct) (binds := [("self", .ref x), (fld, v)])
      hroom (X _ _ ho) rfl lim (codeRec_of X hcd) rfl (bnd _) (fun y hy => ?_) (fun y hy => ?_) (fun h₁ hns k => ?_) rfl rfl rfl
    · rcases okf with rfl | rfl <;> (intro z; simp [iS] at hy; rcases hy with rfl | rfl | rfl | rfl <;> cases z)
    · rcases List.mem_cons.mp hy with rfl | hy
      · exact kI
      · rw [List.mem_singleton.mp hy]
        exact kF
    have X₁ : K.In h₁ := X.keeps k
    have hx₁ := k _ _ hx
    show PySem.wpAt _ _ _ (execs _ _) _ _ _
    refine ks_wpAt_execs_cons (ks_wpAt_Expr_any (at_method hln rfl ?_))
    refine ks_wpAt_super_base (env := ksEnv q (iS fld) s.heap.objs.size fI (.ref cda) cc) kS kC (by decide) rfl (X₁ _ _ ho) rfl rfl rfl (X₁ _ _ hcda) rfl hvs hfile T.top ?_
    refine ks_loadName_global rfl kS (loadGlobal_builtin (env := ksEnv q (iS fld) s.heap.objs.size fI (.ref cda) cc) (gg.keeps k) T.gs (gb.keeps k) ((hbb _ (by decide +kernel)).trans (by first | boot_by_name | rfl | kernel_rfl)) ⟨rfl, ?_⟩)
    refine wpAny_loadName_free rfl kC rfl ⟨_, X₁ _ _ hcc, rfl⟩ ?_
    refine wpAny_loadName_local rfl kI hns lkS ?_
    refine ks_wpAny_isType_cls (X₁ _ _ hC) rfl ⟨rfl, ?_⟩
    have noc : ∀ c, (excO C t0).data ≠ .cls c := fun c z => nomatch z
    refine ks_wpAny_call_super (X₁ _ _ hC) rfl hx₁ rfl noc (looks_mroIn X₁ T.meC) (fun h₂ hso k₂ => ?_)
    have X₂ : K.In h₂ := X₁.keeps k₂
    have hx₂ := k₂ _ _ hx₁
    have hxC : x ≠ C := fun z => by rw [z] at hnx; rw [hnx] at hC; cases hC
    have hsup : alongIn K "__init__" (((.ref C :: bm : List Value).dropWhile (· != .ref C)).drop 1) = some (some (.builtin "ValueError.__init__")) := by
      have z := T.sup
      unfold ks_superIn at z
      rw [hcl] at z
      exact z
    have I₂ : InstAt h₂ x (excO C t0) C none := ⟨hx₂, rfl, rfl, trivial⟩
    refine kxs_getMethod kxs_ValueError hso (looks_opaque X₂ T.op) (l₀ := .ref C :: bm) ((looks_clsIn X₂ hcl).andThen .now) rfl X₂ hsup (I₂.type.andThen (looks_subIn X₂ T.veC)) hxC (by decide) ?_
    have hu : (h₂.push (kxs_mw "ValueError.__init__" x)).get? h₂.objs.size = some (kxs_mw "ValueError.__init__" x) := Heap.get?_push_at rfl rfl
    have k₃ : ∀ b o, h₂.get? b = some o → (h₂.push (kxs_mw "ValueError.__init__" x)).get? b = some o := fun b o e => Heap.get?_push_of_some _ e
    refine kxs_callWith (i := "ValueError.__init__") (x := x) rfl ?_
    refine evalArgs_plain (spliced_cons (wpAny_Constant_str (k := 0) (pos := a4) (spliced_nil ⟨hu, ?_⟩)))
    refine call_mw (X₂.keeps k₃ _ _ hC) (k₃ _ _ hx₂) hu (by show 1 ≤ sizeLine; rw [sizeLine_eq]; decide) fun h₄ t1 k₄ hx₄ => ?_
    -- self.f = f
    have kk : ∀ b o, b ≠ x → h₁.get? b = some o → h₄.get? b = some o := fun b o hb e => k₄ b o hb (k₃ b o (k₂ b o e))
    have hxL : s.heap.objs.size ≠ x := Nat.ne_of_gt (Heap.lt_size hx)
    have hns₄ : h₄.Ns s.heap.objs.size (fun y => ([("self", Value.ref x), (fld, v)] : List (Str × Value)).reverse.lookup y) := hns.at fun o e => kk _ _ hxL e
    have X₄ : K.In h₄ := fun b o e => kk b o (fun z => by rw [z, hnx] at e; cases e) (X₁ b o e)
    refine ks_wpAt_execs_cons (PySem.wpAt_of_wpAny ?_)
    refine plainObj_wpAny_Assign_Attribute ?_
    refine wpAny_Name (wpAny_loadName_local rfl kF hns₄ lkF ?_) kD
    refine wpAny_Name (wpAny_loadName_local rfl kI hns₄ lkS ?_) (by decide)
    refine set_plain X₄ (ox := excO C t1) (od := none) ⟨hx₄, rfl, rfl, trivial⟩ T.sa ?_
    refine exc_osa X₄ hx₄ hcl (show refsVE (.ref C :: bm) = true from hbm) rfl noN (fun h₅ tk₅ dx k₅ dn dne hx₅ hn₅ => ?_)
    refine PySem.wpAt_of_wpAny ?_
    show wpAny _ _ (execs [] _) _ _ _
    have lt1 : s.heap.objs.size ≤ dx := by
      have q1 : s.heap.objs.size < h₄.objs.size := hns₄.lt
      have q2 : h₄.objs.size ≤ dx := dn
      omega
    exact wpAny_execs_nil (hq h₅ tk₅ dx t1 ⟨fun b o hb e => k₅ b o hb (kk b o hb (k b o e)), hx₅, lt1, dne, hn₅⟩)
  exact main fld hargs T.okf T.noN ho hq
theorem sup_made (T : ErrTxt P K mg nmE fld C fI) {v : Value} (X : K.In s.heap) (G : Gnd mg s.heap) (hroom : A.depth + 1 < recursionLimit)
    (hq : ∀ h' tk e d, OwnMade fld s.heap h' e C d v → R (.ok (.ret (.ref e))) { s with heap := h', toks := tk }) :
    codeAny (model P w) A (.call (.ref C) ⟨[v], []⟩) R s := by
  obtain ⟨nm, qq, N, bs, bm, sn, sub, ab, col, dd, k0, k1, k2, k3, k5, hC, hbm⟩ := T.cls
  obtain ⟨hp, g, dr, tk, os⟩ := s
  have k : ∀ b o, hp.get? b = some o → ((hp.push (kdv_tup [v])).push (excO C hp.objs.size)).get? b = some o := fun b o e => Heap.get?_push_of_some _ (Heap.get?_push_of_some _ e)
  have hget : ((hp.push (kdv_tup [v])).push (excO C hp.objs.size)).get? (hp.objs.size + 1) = some (excO C hp.objs.size) := by heap_get
  have hnx : K.lookup (hp.objs.size + 1) = none := by
    cases e : K.lookup (hp.objs.size + 1) with
    | none => rfl
    | some o => exact absurd (Nat.lt_of_succ_lt (Heap.lt_size (X _ _ e : hp.get? (hp.objs.size + 1) = some o))) (Nat.lt_irrefl _)
  refine call_own F.excBase_ValueError (fun X => refsVE_contains X bm hbm) (X _ _ hC) (looks_findIn X T.iC) (fun self => bind_fn X self T.tC) (by show 1 ≤ sizeLine; rw [sizeLine_eq]; decide) ?_
  refine sup_init (s := ⟨(hp.push (kdv_tup [v])).push (excO C hp.objs.size), g, dr, tk, os⟩) T (.inl rfl) (X.keeps k) (G.keeps k) hget hnx hroom fun h' tk' dx t1 I => ?_
  have old : ∀ b o, hp.get? b = some o → h'.get? b = some o := fun b o e => I.keep b o (Nat.ne_of_lt (Nat.lt_succ_of_lt (Heap.lt_size e))) (k b o e)
  have z : hp.objs.size + 1 + 1 ≤ dx := by simpa only [Heap.size_push] using I.dbig
  exact ⟨rfl, hq h' tk' (hp.objs.size + 1) dx ⟨old, Nat.le_succ _, ⟨t1, I.obj⟩, by show hp.objs.size ≤ dx; omega, I.dne, I.ns⟩⟩
end
end SupX

set_option Elab.async false
set_option linter.all false
set_option maxRecDepth 100000
set_option maxHeartbeats 2000000
namespace HX
open PySem PySem.Spec PyProof.Rows L2
theorem relO_fld {fld : Str} {v : V} {v' : Value} (r : RelV v v') (f : Str) : RelO (List.lookup f [(fld, v)]) (if f = fld then some v' else none) := by
  by_cases hw : f = fld
  · subst hw
    rw [if_pos rfl, show List.lookup f [(f, v)] = some v from by simp [List.lookup]]
    exact r
  · rw [if_neg hw, show List.lookup f [(fld, v)] = none from by simp [List.lookup, show (f == fld) = false from by simpa using hw]]
    trivial
theorem gnd_of {X : Cx} {pins : List (Addr × Obj)} {σ : L2.St} {H : Hp} {s : Shared} (I : Inv X pins σ H s) : SupX.Gnd X.mg s.heap :=
  ⟨I.nolimit, I.mod.glob.keeps I.bk, let ⟨mb, q1, q2⟩ := I.mod.blt; ⟨mb, q1.keeps I.bk, q2⟩⟩
section
variable {X : Cx} {nmE fld : Str} {C fI : Addr}
/-- X(e), X an own error with one field -/
def tMkErr (fld : Str) (C : Addr) (ta : TA) : L2.St → Hp → XK → Prop := fun σ H Q => ta σ H fun vs H1 => ∃ v, vs = [v] ∧ ∀ d, H1 d = none → Q (.ref C) (some d) (upd H1 d (.xd [(fld, v)]))
theorem pmk_err {a : Expr} {ta : TA} {p pos : Pos} {k : Nat} (T : SupX.ErrTxt X.prog X.K X.mg nmE fld C fI) (hr : Room k X.A) (ha : PA X [a] ta) (hg : Gl X nmE) (hdb : (nmE == ("__debug__" : Str)) = false)
    (he : starEach (a :: []) X.env = (false, eval a X.env) :: starEach [] X.env := by rfl) (hpl : (backTo pos (starEach [] X.env)).any (·.1) = false := by rfl) :
    PMk X (.Call (.Name nmE p) [a] [] pos) (tMkErr fld C ta) := by
  intro pins s σ H Q I h
  refine wpAny_Call_Name_kw (ld_glob I hg T.gC ?_ hdb)
  refine PySem.W.callWith_K (h₀ := X.base) I.ok.mod.kin T.kC (thn (ha.run pos pins s σ H _ I h) fun us s1 hh => ?_) he hpl
  obtain ⟨vs, H1, I1, r1, v, ev, q1⟩ := hh
  subst ev
  refine ⟨I1.kIn, ?_⟩
  cases r1 with
  | cons rv rn =>
    rename_i v' us'
    cases rn
    show wpAny _ _ (call (.ref C) [v']) _ _ _
    have G1 := gnd_of I1
    obtain ⟨hp, g, dr, tk, os⟩ := s1
    refine wpAny_call (SupX.sup_made T I1.kIn G1 (by have := hr.dp; omega) fun h' tk' e d M => ?_)
    show MkP X pins σ Q (.ref e) ⟨h', g, dr, tk', os⟩
    obtain ⟨t1, hoe⟩ := M.obj
    have hns := M.ns
    obtain ⟨G', g1, g2⟩ := restrict h' fun b => decide (b ≠ e)
    have gk : ∀ b, b ≠ e → G'.get? b = h'.get? b := fun b hb => g1 b (decide_eq_true hb)
    have ge : G'.get? e = none := g2 e (by simp)
    have old : ∀ b o, hp.get? b = some o → G'.get? b = some o := fun b o q => (gk b (Nat.ne_of_lt (Nat.lt_of_lt_of_le (Heap.lt_size q) M.new))).trans (M.keep b o q)
    have ob : ObjOk X.prog X.w (upd H1 d (.xd [(fld, v)])) G' d (.xd [(fld, v)]) :=
      ⟨_, hns.at (fun o q => (gk d M.dne).trans q), fun f => relO_fld rv f⟩
    have J : Inv X pins σ (upd H1 d (.xd [(fld, v)])) ⟨G', g, dr, tk', os⟩ := I1.laid (t' := tk') old M.dbig ob
    refine ⟨e, _, _, ⟨G', g, dr, tk', os⟩, _, .ref C, some d, rfl, J, fun b o q => ?_, ge, hoe, ⟨rfl, rfl⟩, rfl, rfl, ?_, rfl, I1.bare, raises_own T.exC T.tyC, q1 d (I1.hok.fresh M.dbig)⟩
    · by_cases hb : b = e
      · have q' : G'.get? b = some o := q
        rw [hb, ge] at q'; cases q'
      · exact (gk b hb).symm.trans q
    · rw [upd_ne (Ne.symm M.dne)]
      exact I1.hok.fresh M.new
/-- raise X(e) -/
def tRaiseErr (fld : Str) (C : Addr) (W : WX) (ta : TA) : TS := fun _ σ H => tMkErr fld C ta σ H fun cls d H' => W cls d σ H'
theorem ps_raiseErr {a : Expr} {ta : TA} {W : WX} {p pos pos2 : Pos} {k : Nat} (hc : X.calm = true) (T : SupX.ErrTxt X.prog X.K X.mg nmE fld C fI) (hr : Room k X.A) (tk : Takes X W) (ha : PA X [a] ta) (hg : Gl X nmE := by rfl) (hdb : (nmE == ("__debug__" : Str)) = false := by decide)
    (he : starEach (a :: []) X.env = (false, eval a X.env) :: starEach [] X.env := by rfl) (hpl : (backTo pos (starEach [] X.env)).any (·.1) = false := by rfl) :
    PS X (.Raise (some (.Call (.Name nmE p) [a] [] pos)) none pos2) (tRaiseErr fld C W ta) := ps_raise hc tk (pmk_err T hr ha hg hdb he hpl)
/-- e.fld, e the exception that the suite holds (at a; its class cls, its dict d) -/
def tByErr (fld : Str) (C : Addr) (a : Addr) (cls : Value) (d : Option Addr) (te : TE) : TE := fun σ H Q => te σ H fun x H1 => x = .ref a ∧ cls = .ref C ∧ ∃ (dd : Addr) (v : V), d = some dd ∧ H1 dd = some (.xd [(fld, v)]) ∧ Q v H1
theorem pe_byErr {a : Addr} {oe : Obj} {cls : Value} {d : Option Addr} {pn : List (Addr × Obj)} {e : Expr} {te : TE} {pos : Pos} (T : SupX.ErrTxt X.prog X.K X.mg nmE fld C fI) (hz : Zc cls d oe) (hf : ∃ vs, oe.data = .fields vs) (he : PE (X.suite a ((a, oe) :: pn)) e te)
    (hb : attributeBase e fld X.env (eval e X.env) = eval e X.env := by rfl) :
    PE (X.suite a ((a, oe) :: pn)) (.Attribute e fld pos) (tByErr fld C a cls d te) := by
  refine ⟨fun pins s σ H Q I h => ?_⟩
  refine attr_of hb (thn (he.run pins s σ H _ I h) fun u s1 hh => ?_)
  obtain ⟨x, H1, I1, rx, ex, ec, dd, v, ed, ea, q⟩ := hh
  subst ex
  obtain rfl : u = Value.ref a := rx
  subst ec
  subst ed
  obtain ⟨ha, _⟩ := I1.pin (a, oe) (List.mem_append_left _ List.mem_cons_self)
  obtain ⟨vs, hd⟩ := hf
  have hx : ObjOk X.prog X.w H1 s1.heap dd (.xd [(fld, v)]) := I1.hok dd _ ea
  obtain ⟨mA, hns, hr⟩ := hx
  obtain ⟨od, ho, hl⟩ := lookIn_ns hns
  have l : List.lookup fld [(fld, v)] = some v := by simp [List.lookup]
  obtain ⟨u, hu, ru⟩ := RelO.some_of (v := v) (o := mA fld) (by rw [← l]; exact hr fld)
  have J : PySem.W.InstAt s1.heap a oe C (some od) := ⟨ha, hz.1, by unfold PySem.W.notCls; rw [hd] <;> rfl, by rw [hz.2]; exact ho⟩
  exact HandSPX.exc_get I1.kIn J T.ga T.gg T.exC (PySem.W.findObj_own T.hdC T.noN rfl (by rw [hl, hu])) (handed_of ru) ⟨v, H1, I1.tok _, ru, q⟩
end
end HX

set_option Elab.async false
set_option linter.all false
set_option maxRecDepth 100000
set_option maxHeartbeats 2000000
/-! several except clauses, each with the same name (as e) -/
namespace HX
open PySem PySem.Spec PyProof.Rows L2
/-- behind a suite the name's slot is empty -/
def Ends.clr (i : Nat) (D : Ends) : Ends := { nx := fun τ G => D.nx (τ.set i none) G, rt := D.rt, bk := fun τ G => D.bk (τ.set i none) G, ct := fun τ G => D.ct (τ.set i none) G }
def wAll (K : PySem.W.Frag) (i : Nat) (Wo : WX) (D : Ends) : List (Value × (Addr → Value → Option Addr → TS)) → WX
  | [] => Wo
  | (c, t) :: more => fun cl dd τ G => ∃ yes, PySem.W.exmOne K cl c = some yes ∧ (yes = true → ∀ x, G x = none → t x cl dd (Ends.clr i D) (τ.set i (some (.ref x))) G) ∧ (yes = false → wAll K i Wo D more cl dd τ G)
inductive Clauses (X : Cx) (n : Str) : List ExceptHandler → List (Value × (Addr → Value → Option Addr → TS)) → Prop
  | nil : Clauses X n [] []
  | cons {x : Str} {c : Value} {t : Addr → Value → Option Addr → TS} {b : Stmt} {bs : List Stmt} {p q : Pos} {hs : List ExceptHandler} {l : List (Value × (Addr → Value → Option Addr → TS))} (nm : Names X x c)
      (body : ∀ (x : Addr) (ob : Obj) (cl : Value) (dd : Option Addr) (pn : List (Addr × Obj)), Zc cl dd ob → (∃ vs, ob.data = .fields vs) → PSs (X.suite x ((x, ob) :: pn)) (b :: bs) (t x cl dd)) (more : Clauses X n hs l) :
      Clauses X n (.ExceptHandler (some (.Name x p)) (some n) (b :: bs) q :: hs) ((c, t) :: l)
section
variable {X : Cx} {n : Str} {i : Nat} {body : List Stmt} {h1 : ExceptHandler} {hs : List ExceptHandler} {l : List (Value × (Addr → Value → Option Addr → TS))} {pos : Pos} {tb : WX → TS} {Wo : WX}
theorem ps_try_all (st : X.stack = X.env :: X.outer) (fr : X.env.frame = some X.env.locals) (nd : X.N.Nodup) (at_ : X.N[i]? = some n) (lc : X.env.kindOf n = some .local) (out : Takes X Wo)
    (hb : ∀ (W : WX) (pn : List (Addr × Obj)) (xe : Value → Shared → Prop), Takes (X.tr pn xe) W → PassesOwn (model X.prog X.w) X.A X.env xe → PSs (X.tr pn xe) body (tb W)) (cs : Clauses X n (h1 :: hs) l) :
    PS X (.Try body (h1 :: hs) [] [] pos) (fun D σ H => tb (wAll X.K i Wo D l) D σ H) := by
  constructor
  intro pins s σ H D I want
  have okX := I.ok
  have frs1 : X.A.frames = some (X.env :: X.outer) := okX.frames.trans (by rw [st])
  refine wpAny_Try_except ?_
  let after : Value → Shared → Prop := fun u s1 => wpAny (model X.prog X.w) X.A (noteFrame u X.env) (fun _ s2 =>
    wpAny (model X.prog X.w) X.A (setFlight u none) (fun _ s3 => wpAny (model X.prog X.w) X.A (handleBy u X.env (h1 :: hs)) (SP X pins D) X.xe s3) X.xe s2) X.xe s1
  have caught : Takes (X.tr (X.pn ++ pins) after) (wAll X.K i Wo D l) := by
    rintro u s1 ⟨x, gr, s0, pins2, τ, G, cl, dd, rfl, I2, ng, us, sk, nx, eos, bare, want2⟩
    have I0 : Inv X pins τ G s0 := I2.ofTry okX
    rw [show (X.tr (X.pn ++ pins) after).stack = X.env :: X.outer from st] at sk
    show wpAny (model X.prog X.w) X.A (noteFrame (.ref x) X.env) _ _ _
    refine Sky.land Zc.steady frs1 fr sk fun g2 fly us2 => ?_
    have I3 : Inv X pins τ G { s1 with heap := g2 } := I0.landed ng fly.1 (us.trans us2) eos bare
    obtain ⟨ob, vs, gx, zx, dx⟩ := fly.there
    have apart : x ∉ frs (X.env :: X.outer) := by
      intro m
      obtain ⟨_, o2, e2, nf⟩ := fly.2.2.1.mem m
      rw [gx] at e2
      cases e2
      exact nf _ dx
    have xL : x ≠ X.env.locals := fun z => apart (List.mem_filterMap.mpr ⟨X.env, List.mem_cons_self, by rw [fr, z]⟩)
    have xF : x ∉ X.fs := by
      intro m
      obtain ⟨e2, m2, q2⟩ := List.mem_filterMap.mp m
      exact apart (List.mem_filterMap.mpr ⟨e2, List.mem_cons_of_mem _ m2, q2⟩)
    have inS := I3.suite gx dx nx xL xF
    have walkC : ∀ {hs2 : List ExceptHandler} {l2 : List (Value × (Addr → Value → Option Addr → TS))}, Clauses X n hs2 l2 → wAll X.K i Wo D l2 cl dd τ G →
        wpAny (model X.prog X.w) X.A (handleBy (.ref x) X.env hs2) (SP X pins D) X.xe { s1 with heap := g2 } := by
      intro hs2 l2 c2
      induction c2 with
      | nil =>
        intro w
        refine wpAny_handleBy_nil ?_
        obtain ⟨_, _, _, ob2, vs2, Tb, oTb, ts2, gx2, _, dx2, v1, _⟩ := id fly
        unfold PySem.passOn
        refine wpAny_bind (wpAny_field gx2 dx2 v1 ?_)
        have isnt : ¬ ((Value.ref Tb == Value.none) = true) := by simp
        rw [if_neg isnt]
        have leave : wpAny (model X.prog X.w) X.A (setFlight (.ref x) X.env.frame) (fun _ s4 => wpAny (model X.prog X.w) X.A (throw (.ref x) : Sem Flow) (SP X pins D) X.xe s4) X.xe { s1 with heap := g2 } := by
          rw [fr]
          refine HandSPX.setFlight_upZ fly fun g4 held us4 => ?_
          refine wpAny_throw (out _ _ ?_)
          refine ⟨x, gr, s0, pins, τ, G, cl, dd, rfl, I0, ng, (us.trans us2).trans us4, ?_, nx, eos, bare, w⟩
          rw [st]
          exact .inr (.inr held)
        first
          | exact wpAny_bind leave
          | exact wpAny_bind (wpAny_pure (wpAny_bind leave))
      | @cons xn c t b bs p q hs3 l3 nm suite more ih =>
        intro w
        obtain ⟨yes, match_, yesW, noW⟩ := w
        refine wpAny_handleBy_cons (codeAny_handlers_test ?_) (by intro z; cases z)
        have ty : PySem.W.Looks (model X.prog X.w) g2 (typeOf (.ref x)) cl := fun A Q E s4 k z => wpAny_typeOf_ref (k _ _ gx) (by rw [zx.1]; exact z)
        have looks := PySem.W.exm_one (M := model X.prog X.w) I3.kIn ty match_
        have nameOf : ∀ {Q : Value → Shared → Prop} {E : Value → Shared → Prop}, Q c { s1 with heap := g2 } → wpAny (model X.prog X.w) (X.A.mark (some (.ref x))) (eval (.Name xn p) X.env) Q E { s1 with heap := g2 } := by
          intro Q E z
          obtain ⟨gl, db, m | ⟨m, bt, nn⟩⟩ := nm
          · exact ld_glob (X := X.suite x ((x, ob) :: (X.pn ++ pins))) inS gl m z db
          · exact ld_blt (X := X.suite x ((x, ob) :: (X.pn ++ pins))) inS gl m bt z nn db
        refine nameOf (looks.here ?_)
        cases yes with
        | false =>
          show wpAny _ X.A (handleBy (.ref x) X.env hs3) _ _ _
          exact ih (noW rfl)
        | true =>
          refine codeAny_handlers_suite_as ?_
          refine HandSPX.lands_againZ fly fun g4 fly4 us4 => ?_
          have I4 : Inv X pins τ G { s1 with heap := g4 } := I0.landed ng fly4.1 ((us.trans us2).trans us4) eos bare
          obtain ⟨ob4, vs4, gx4, zx4, dx4⟩ := fly4.there
          have inS4 := I4.suite gx4 dx4 nx xL xF
          refine store_ok (X := X.suite x ((x, ob4) :: (X.pn ++ pins))) (v := .ref x) inS4 nd at_ (.inl lc) rfl (fun s5 inS5 => ?_) (.inr lc)
          refine wpAny_mono ((suite x ob4 cl dd (X.pn ++ pins) zx4 ⟨_, dx4⟩).run [] s5 _ G _ inS5 (yesW rfl x nx)) (fun fl s6 got => ?_) (fun _ _ z => False.elim z)
          have gone : ∀ {τ6 : L2.St} {G6 : Hp} {Q : Shared → Prop}, Inv (X.suite x ((x, ob4) :: (X.pn ++ pins))) [] τ6 G6 s6 → (∀ s7, Inv X pins (τ6.set i none) G6 s7 → Q s7) →
              wpAny (model X.prog X.w) X.A (do bindName X.env n .none; unbindBehindTheSuite X.env n q) (fun _ s7 => Q s7) X.xe s6 := by
            intro τ6 G6 Q in6 z
            exact gone_ok (in6.unsuite okX) nd at_ lc z
          cases fl with
          | ret u =>
            obtain ⟨v6, τ6, G6, in6, r6, z⟩ := got
            exact gone in6 fun s7 I7 => ⟨_, _, _, I7, r6, z⟩
          | next =>
            obtain ⟨τ6, G6, in6, z⟩ := got
            exact gone in6 fun s7 I7 => ⟨_, _, I7, z⟩
          | brk =>
            obtain ⟨τ6, G6, in6, z⟩ := got
            exact gone in6 fun s7 I7 => ⟨_, _, I7, z⟩
          | cont =>
            obtain ⟨τ6, G6, in6, z⟩ := got
            exact gone in6 fun s7 I7 => ⟨_, _, I7, z⟩
    exact walkC cs want2
  refine wpAny_mono ((hb (wAll X.K i Wo D l) (X.pn ++ pins) after caught PassesOwn.looking).run [] s σ H D (I.toTry _) want) (fun fl s1 got => ?_) (fun _ _ z => z)
  cases fl with
  | ret u =>
    obtain ⟨v, τ, G, I2, r2, z⟩ := got
    exact ⟨v, τ, G, I2.ofTry okX, r2, z⟩
  | next =>
    obtain ⟨τ, G, I2, z⟩ := got
    exact wpAny_execs_nil ⟨τ, G, I2.ofTry okX, z⟩
  | brk =>
    obtain ⟨τ, G, I2, z⟩ := got
    exact ⟨τ, G, I2.ofTry okX, z⟩
  | cont =>
    obtain ⟨τ, G, I2, z⟩ := got
    exact ⟨τ, G, I2.ofTry okX, z⟩
end
/-! ### isinstance of the error that a suite holds, with a dict or without -/
def rIsH (K : PySem.W.Frag) (a : Addr) (cls : Value) (d : Option Addr) : List V → Hp → VK → Prop := fun xs H Q => ∃ (C : Addr) (c : V) (cv : Value) (b : Bool), xs = [.ref a, c] ∧ ClsV c cv ∧ cls = .ref C ∧ ExcC K C ∧
  (∀ dx, d = some dx → ∃ fs, H dx = some (.xd fs)) ∧ PySem.W.kitOne K (.ref C) cv = some b ∧ Q (.bl b) H
theorem call_isH {X : Cx} {a : Addr} {cls : Value} {d : Option Addr} {oe : Obj} {pn : List (Addr × Obj)} (hz : Zc cls d oe) (hf : ∃ vs, oe.data = .fields vs) : CallR (X.suite a ((a, oe) :: pn)) (.builtin "isinstance") (rIsH X.K a cls d) := by
  intro pins s σ H xs us Q I r h
  obtain ⟨C, c, cv, b, rfl, k, rfl, T, hd, e, q⟩ := h
  obtain ⟨u1, u2, rfl, r1, r2⟩ := vals2 r
  have e2 := k.eq r2
  subst e2
  cases (show u1 = Value.ref a from r1)
  obtain ⟨ha, _⟩ := I.pin (a, oe) (List.mem_append_left _ List.mem_cons_self)
  obtain ⟨vs, hv⟩ := hf
  have nocls : PySem.W.notCls oe = true := by unfold PySem.W.notCls; rw [hv] <;> rfl
  obtain ⟨od, J⟩ : ∃ od, PySem.W.InstAt s.heap a oe C od := by
    cases d with
    | none => exact ⟨none, ha, hz.1, nocls, by rw [hz.2]; trivial⟩
    | some dx =>
      obtain ⟨fs, hx⟩ := hd dx rfl
      obtain ⟨mA, hns, _⟩ := (show ObjOk X.prog X.w H s.heap dx (.xd fs) from I.hok dx _ hx)
      obtain ⟨od, hod, _⟩ := lookIn_ns hns
      exact ⟨some od, ha, hz.1, nocls, by rw [hz.2]; exact hod⟩
  have hcl : (PySem.W.clsIn X.K C).isSome = true := by
    obtain ⟨cd, hc, _⟩ := PySem.W.any_some T.hd
    rw [hc]
    rfl
  exact PySem.W.kia_one (PySem.W.kitx_exc hcl T.hg T.hk T.hs T.ha T.hn T.ht T.hm) I.kIn J e (fun z => nomatch z) fun tk => ⟨.bl b, H, I.tok tk, rfl, q⟩
end HX

set_option Elab.async false
set_option linter.all false
set_option maxRecDepth 100000
set_option maxHeartbeats 2000000
/-! errors whose context is None (HandS.ExcCtx), and unpacking within an except suite -/
namespace HX
open PySem PySem.Spec PyProof.Rows L2
theorem takes0N {X : Cx} : L2N.Takes X (fun _ _ _ _ => False) := fun _ _ x => by
  obtain ⟨_, _, _, _, _, _, _, _, _, _, _, _, _, _, _, _, z⟩ := x
  exact z.elim
section
variable {P : Program} {w : World} {K : PySem.W.Frag} {mg : Str → Option Value} {base : Heap}
theorem okXN {x qual : Str} {st : Stmt} {f : Addr} {fd : FuncData} {N ps : List Str} {k : Nat} {sp : Sp} (F : Fun K x qual st f fd) (S : FnScope N ps (defScope st)) (len : ∀ vs H Q E, sp vs H Q E → vs.length = ps.length)
    (hbody : ∀ (cdv : Value) (A : Around) (outer : List Env) (s : Shared) (H : Hp) (vs : List V) (Q : VK) (E : XK), Room k (A.deeper (envOfC qual (defScope st) s.heap.objs.size f cdv)) → sp vs H Q E →
      ∃ t, PSs (cxOf (L2N.CX P w) P w K mg base N qual (defScope st) f cdv A outer s H E) (defBody st) t ∧ t { nx := fun _ H' => Q .non H', rt := Q } (start N vs) H) : FnOk P w K mg base (L2N.CX P w) (k + 1) f fd ps sp := by
  obtain ⟨oc, od, kV, doc, pm, an, cdv, ct, osl, rfl, lk, hcd⟩ := F.ex
  exact fn_of lk hcd S len fun A outer s H vs Q E hr hsp => hbody cdv A outer s H vs Q E hr hsp
end
section
variable {X : Cx} {nmE fld : Str} {C fI : Addr}
theorem pmk_errN {a : Expr} {ta : TA} {p pos : Pos} {k : Nat} (T : SupX.ErrTxt X.prog X.K X.mg nmE fld C fI) (hr : Room k X.A) (ha : PA X [a] ta) (hg : Gl X nmE) (hdb : (nmE == ("__debug__" : Str)) = false)
    (he : starEach (a :: []) X.env = (false, eval a X.env) :: starEach [] X.env := by rfl) (hpl : (backTo pos (starEach [] X.env)).any (·.1) = false := by rfl) :
    L2N.PMk X (.Call (.Name nmE p) [a] [] pos) (tMkErr fld C ta) := by
  intro pins s σ H Q I h
  refine wpAny_Call_Name_kw (ld_glob I hg T.gC ?_ hdb)
  refine PySem.W.callWith_K (h₀ := X.base) I.ok.mod.kin T.kC (thn (ha.run pos pins s σ H _ I h) fun us s1 hh => ?_) he hpl
  obtain ⟨vs, H1, I1, r1, v, ev, q1⟩ := hh
  subst ev
  refine ⟨I1.kIn, ?_⟩
  cases r1 with
  | cons rv rn =>
    rename_i v' us'
    cases rn
    show wpAny _ _ (call (.ref C) [v']) _ _ _
    have G1 := gnd_of I1
    obtain ⟨hp, g, dr, tk, os⟩ := s1
    refine wpAny_call (SupX.sup_made T I1.kIn G1 (by have := hr.dp; omega) fun h' tk' e d M => ?_)
    show L2N.MkP X pins σ Q (.ref e) ⟨h', g, dr, tk', os⟩
    obtain ⟨t1, hoe⟩ := M.obj
    have hns := M.ns
    obtain ⟨G', g1, g2⟩ := restrict h' fun b => decide (b ≠ e)
    have gk : ∀ b, b ≠ e → G'.get? b = h'.get? b := fun b hb => g1 b (decide_eq_true hb)
    have ge : G'.get? e = none := g2 e (by simp)
    have old : ∀ b o, hp.get? b = some o → G'.get? b = some o := fun b o q => (gk b (Nat.ne_of_lt (Nat.lt_of_lt_of_le (Heap.lt_size q) M.new))).trans (M.keep b o q)
    have ob : ObjOk X.prog X.w (upd H1 d (.xd [(fld, v)])) G' d (.xd [(fld, v)]) :=
      ⟨_, hns.at (fun o q => (gk d M.dne).trans q), fun f => relO_fld rv f⟩
    have J : Inv X pins σ (upd H1 d (.xd [(fld, v)])) ⟨G', g, dr, tk', os⟩ := I1.laid (t' := tk') old M.dbig ob
    refine ⟨e, _, _, ⟨G', g, dr, tk', os⟩, _, .ref C, some d, rfl, J, fun b o q => ?_, ge, hoe, ⟨rfl, rfl, fun vs q => by cases q; rfl⟩, rfl, rfl, ?_, rfl, I1.bare, raises_own T.exC T.tyC, q1 d (I1.hok.fresh M.dbig)⟩
    · by_cases hb : b = e
      · have q' : G'.get? b = some o := q
        rw [hb, ge] at q'; cases q'
      · exact (gk b hb).symm.trans q
    · rw [upd_ne (Ne.symm M.dne)]
      exact I1.hok.fresh M.new
theorem ps_raiseErrN {a : Expr} {ta : TA} {W : WX} {p pos pos2 : Pos} {k : Nat} (hc : X.calm = true) (T : SupX.ErrTxt X.prog X.K X.mg nmE fld C fI) (hr : Room k X.A) (tk : L2N.Takes X W) (ha : PA X [a] ta) (hg : Gl X nmE := by rfl) (hdb : (nmE == ("__debug__" : Str)) = false := by decide)
    (he : starEach (a :: []) X.env = (false, eval a X.env) :: starEach [] X.env := by rfl) (hpl : (backTo pos (starEach [] X.env)).any (·.1) = false := by rfl) :
    PS X (.Raise (some (.Call (.Name nmE p) [a] [] pos)) none pos2) (tRaiseErr fld C W ta) 
  := L2N.ps_raise hc tk (pmk_errN T hr ha hg hdb he hpl)

end
section
variable {prog : Program} {w : World} {A : Around} {E : Value → Shared → Prop} {s : Shared}
open HotX
theorem tup_end_hot {it t x1 : Addr} {i : Nat} {items : Array Value} {Q : Option Value → Shared → Prop} (hot : HotAt A x1 s.heap) (ne : x1 ≠ it) (hit : IsTupIter s.heap it t i) (ht : IsTup s.heap t items) (hx : items[i]? = none)
    (hQ : ∀ h', Heap.ExtBut it s.heap h' → Q none { s with heap := h' }) : wpAny (model prog w) A (pyNext (.ref it)) Q E s := by
  obtain ⟨o, ho, hc, hd⟩ := id hit
  obtain ⟨ol, hol, _, nl, hdl⟩ := ht
  obtain ⟨hh, o1, vs1, h1, d1, c1⟩ := hot
  unfold pyNext
  refine wpAny_bind (wpAny_attempt (wpAny_callSpecial?_slot (name := Str.ofString "__next__") hit.typeIs slot_tupleiter_next
    (wpAny_call_entry slot_tupleiter_next hit.typeIs entry_tupleiter_next ?_ (args_tupleiter_next _))))
  show wpAny _ _ (field (.ref it) 0 >>= _) _ _ s
  refine wpAny_bind (wpAny_field ho hd (x := .ref t) rfl ?_)
  show wpAny _ _ (if (Value.ref t == Value.none) = true then _ else _) _ _ s
  rw [if_neg (show ¬ ((Value.ref t == Value.none) = true) from Bool.false_ne_true)]
  show wpAny _ _ (field (.ref it) 1 >>= _) _ _ s
  refine wpAny_bind (wpAny_field ho hd (x := .int i 0) rfl ?_)
  show wpAny _ _ (seqItems? (.ref t) >>= _) _ _ s
  refine wpAny_bind (wpAny_seqItems hol hdl ?_)
  simp only [Int.toNat_natCast, hx]
  refine wpAny_bind (wpAny_rule (wpAny_bind (wpAny_setField ho hd (by simp) ?_)))
  have g1 : ∀ f, (s.heap.update it f).get? x1 = some o1 := fun f => (Heap.get?_update_other _ _ (Ne.symm ne)).trans h1
  show wpAny _ _ (newExc (.type "StopIteration") [] >>= _) _ _ _
  refine wpAny_bind ?_
  simp only [newExc, newTuple]
  refine wpAny_bind (wpAny_newObj_type ?_ (by size_fits))
  refine wpAny_bind (m := firstArgMember _ _) (wpAny_of_eq (a := Value.none) (by first | rfl | (simp only [firstArgMember]; rfl)) ?_)
  refine wpAny_newObj_type ?_ (by size_fits)
  refine raiseNew_hot ⟨hh, o1, vs1, Heap.get?_push_of_some _ (Heap.get?_push_of_some _ (g1 _)), d1, c1⟩ (Nat.ne_of_lt (Heap.lt_size (Heap.get?_push_of_some _ (g1 _)))) (Heap.get?_push_size _ rfl) rfl (by first | (simp; done) | (simp; omega) | (simp only [Array.size_append]; simp; omega)) ?_
  refine wpAny_bind (wpAny_isInstance (T := "StopIteration") (b := true) ⟨_, Heap.get?_update_self _ (Heap.get?_push_size _ rfl) rfl, rfl⟩ isSubtype_stop ?_)
  refine wpAny_pure (hQ _ fun b ob nb e => ?_)
  have e1 : ∀ f, (s.heap.update it f).get? b = some ob := fun f => (Heap.get?_update_other _ _ (Ne.symm nb)).trans e
  rw [Heap.get?_update_other _ _ (Nat.ne_of_gt (Heap.lt_size (Heap.get?_push_of_some _ (e1 _))))]
  exact Heap.get?_push_of_some _ (Heap.get?_push_of_some _ (e1 _))
theorem unpack_hot {t x1 : Addr} {items : Array Value} {Q : List Value → Shared → Prop} (hot : HotAt A x1 s.heap) (ht : IsTup s.heap t items)
    (hQ : ∀ h', Heap.ExtBut s.heap.objs.size s.heap h' → Q items.toList { s with heap := h' }) : wpAny (model prog w) A (unpackItems (.ref t) items.size none) Q E s := by
  have hlt : t ≠ s.heap.objs.size := by obtain ⟨o, ho, _⟩ := ht; exact Nat.ne_of_lt (Heap.lt_size ho)
  obtain ⟨hh, o1, vs1, h1, d1, c1⟩ := hot
  have hx1 : x1 ≠ s.heap.objs.size := Nat.ne_of_lt (Heap.lt_size h1)
  unfold unpackItems
  refine wpAny_bind ?_
  unfold notIterableAtAll
  refine wpAny_bind (wpAny_specialOf ht.typeIs slot_tuple_iter.lookup (wpAny_pure ?_))
  simp only [Bool.false_eq_true, if_false]
  refine wpAny_bind (wpAny_holding (iter_tuple ht ?_))
  refine wpAny_bind (wpAny_holding (draw_tuple hlt items.size 0 _ _ ⟨_, Heap.get?_push_size _ rfl, rfl, rfl⟩ (ht.push _) (by omega) fun h₁ hit₁ hs₁ => ?_))
  have all : List.take items.size (List.drop 0 items.toList) = items.toList := by
    rw [List.drop_zero]
    exact List.take_of_length_le (by simp)
  rw [all, if_neg (by simp)]
  have ht₁ : IsTup h₁ t items := (ht.push _).extBut hs₁.extBut hlt
  refine wpAny_bind (wpAny_holding (tup_end_hot ⟨hh, o1, vs1, hs₁.extBut x1 o1 hx1 (Heap.get?_push_of_some _ h1), d1, c1⟩ hx1 hit₁ ht₁ (by simp) fun h₂ he₂ => ?_))
  simp only [Option.isSome_none, Bool.false_eq_true, if_false]
  exact wpAny_pure (hQ _ fun b o hb e => he₂ b o hb (hs₁.extBut b o hb (Heap.get?_push_of_some _ e)))
end
/-- a, b = x, y within an except suite -/
theorem ps_parH {X : Cx} {i j : Nat} {x y : Str} {a b : Expr} {ta : TA} {px py pt pos : Pos} {kt k2 pt2} (hot : L2H.HotC X) (hN : X.N.Nodup) (hi : X.N[i]? = some x) (hj : X.N[j]? = some y) (hij : i ≠ j)
    (hx : X.env.scope.names.lookup x = some .local) (hy : X.env.scope.names.lookup y = some .local) (ha : PA X [a, b] ta)
    (hw : swappedStores [.Tuple [.Name x px, .Name y py] kt pt] (.Tuple [a, b] k2 pt2) X.env = pure (some [x, y]))
    (hs : swapsWithSole [.Tuple [.Name x px, .Name y py] kt pt] (.Tuple [a, b] k2 pt2) pos.line X.env = pure false := by rfl) :
    PS X (.Assign [.Tuple [.Name x px, .Name y py] kt pt] (.Tuple [a, b] k2 pt2) pos) (tPar i j ta) := by
  refine ⟨fun pins s σ H D I h => ?_⟩
  rw [exec_Assign_arm]
  refine wpAny_bind (wpAny_standAt ?_)
  rw [hs]
  refine wpAny_bind (wpAny_pure ?_)
  rw [if_neg (by decide)]
  refine wpAny_bind (Tuple_ (thn (ha.run _ pins s σ H _ I h) fun us s1 ⟨vs, H1, I1, r1, q1⟩ => ?_))
  obtain ⟨v, w, rfl, q1⟩ := q1
  obtain ⟨u1, u2, rfl, rv, rw'⟩ := vals2 r1
  refine wpAny_newObj_type ?_ (by show 2 ≤ sizeLine; decide)
  have I2 : Inv X pins σ H1 { s1 with heap := s1.heap.push { cls := .type "tuple", data := .seq [u1, u2].toArray } } := I1.kept (t' := s1.toks) fun b o e => Heap.get?_push_of_some _ e
  rw [hw]
  refine wpAny_bind (wpAny_pure ?_)
  obtain ⟨x1, ht⟩ := hot.at I2
  show wpAny (model X.prog X.w) X.A (do rule "assign.swapped-stores"; let items ← unpackItems (.ref s1.heap.objs.size) 2 none; assignInOrder [fun v => bindName X.env y v, fun v => bindName X.env x v] items.reverse; pure Flow.next) _ _ _
  refine wpAny_bind (wpAny_rule (wpAny_bind (unpack_hot (items := #[u1, u2]) ht (IsTup.new s1.heap _) fun h' hx' => ?_)))
  have I3 := I2.kept (h' := h') (t' := s1.toks) fun b o e => hx' b o (Nat.ne_of_lt (Heap.lt_size e)) e
  show wpAny _ _ (assignInOrder [fun v => bindName X.env y v, fun v => bindName X.env x v] [u2, u1] >>= fun _ => pure Flow.next) _ _ _
  refine wpAny_bind (assignInOrder_cons (wpAny_bindName (store_ok I3 hN hj (.inl hy) rw' (fun s2 I4 => ?_) (.inr hy))))
  refine assignInOrder_cons (wpAny_bindName (store_ok I4 hN hi (.inl hx) rv (fun s3 I5 => assignInOrder_nil (wpAny_pure ?_)) (.inr hx)))
  rw [List.set_comm _ _ (Ne.symm hij)] at I5
  exact ⟨_, H1, I5, q1⟩
theorem hotC_of {X : Cx} {a : Addr} {oe : Obj} {cls : Value} {d : Option Addr} {pn : List (Addr × Obj)} (hz : L2N.Zn cls d oe) (hf : ∃ vs, oe.data = .fields vs) : L2H.HotC (X.suite a ((a, oe) :: pn)) :=
  let ⟨vs, h⟩ := hf; ⟨(a, oe), ⟨rfl, vs, h, hz.2.2 vs h⟩, List.mem_cons_self⟩
inductive ClausesN (X : Cx) (n : Str) : List ExceptHandler → List (Value × (Addr → Value → Option Addr → TS)) → Prop
  | nil : ClausesN X n [] []
  | cons {x : Str} {c : Value} {t : Addr → Value → Option Addr → TS} {b : Stmt} {bs : List Stmt} {p q : Pos} {hs : List ExceptHandler} {l : List (Value × (Addr → Value → Option Addr → TS))} (nm : Names X x c)
      (body : ∀ (x : Addr) (ob : Obj) (cl : Value) (dd : Option Addr) (pn : List (Addr × Obj)), L2N.Zn cl dd ob → (∃ vs, ob.data = .fields vs) → PSs (X.suite x ((x, ob) :: pn)) (b :: bs) (t x cl dd)) (more : ClausesN X n hs l) :
      ClausesN X n (.ExceptHandler (some (.Name x p)) (some n) (b :: bs) q :: hs) ((c, t) :: l)
section
variable {X : Cx} {n : Str} {i : Nat} {body : List Stmt} {h1 : ExceptHandler} {hs : List ExceptHandler} {l : List (Value × (Addr → Value → Option Addr → TS))} {pos : Pos} {tb : WX → TS} {Wo : WX}
theorem ps_try_allN (st : X.stack = X.env :: X.outer) (fr : X.env.frame = some X.env.locals) (nd : X.N.Nodup) (at_ : X.N[i]? = some n) (lc : X.env.kindOf n = some .local) (out : L2N.Takes X Wo)
    (hb : ∀ (W : WX) (pn : List (Addr × Obj)) (xe : Value → Shared → Prop), L2N.Takes (X.tr pn xe) W → PassesOwn (model X.prog X.w) X.A X.env xe → PSs (X.tr pn xe) body (tb W)) (cs : ClausesN X n (h1 :: hs) l) :
    PS X (.Try body (h1 :: hs) [] [] pos) (fun D σ H => tb (wAll X.K i Wo D l) D σ H) := by
  constructor
  intro pins s σ H D I want
  have okX := I.ok
  have frs1 : X.A.frames = some (X.env :: X.outer) := okX.frames.trans (by rw [st])
  refine wpAny_Try_except ?_
  let after : Value → Shared → Prop := fun u s1 => wpAny (model X.prog X.w) X.A (noteFrame u X.env) (fun _ s2 =>
    wpAny (model X.prog X.w) X.A (setFlight u none) (fun _ s3 => wpAny (model X.prog X.w) X.A (handleBy u X.env (h1 :: hs)) (SP X pins D) X.xe s3) X.xe s2) X.xe s1
  have caught : L2N.Takes (X.tr (X.pn ++ pins) after) (wAll X.K i Wo D l) := by
    rintro u s1 ⟨x, gr, s0, pins2, τ, G, cl, dd, rfl, I2, ng, us, sk, nx, eos, bare, want2⟩
    have I0 : Inv X pins τ G s0 := I2.ofTry okX
    rw [show (X.tr (X.pn ++ pins) after).stack = X.env :: X.outer from st] at sk
    show wpAny (model X.prog X.w) X.A (noteFrame (.ref x) X.env) _ _ _
    refine L2N.Sky.land L2N.Zn.steady frs1 fr sk fun g2 fly us2 => ?_
    have I3 : Inv X pins τ G { s1 with heap := g2 } := I0.landed ng fly.1 (us.trans us2) eos bare
    obtain ⟨ob, vs, gx, zx, dx⟩ := fly.there
    have apart : x ∉ frs (X.env :: X.outer) := by
      intro m
      obtain ⟨_, o2, e2, nf⟩ := fly.2.2.1.mem m
      rw [gx] at e2
      cases e2
      exact nf _ dx
    have xL : x ≠ X.env.locals := fun z => apart (List.mem_filterMap.mpr ⟨X.env, List.mem_cons_self, by rw [fr, z]⟩)
    have xF : x ∉ X.fs := by
      intro m
      obtain ⟨e2, m2, q2⟩ := List.mem_filterMap.mp m
      exact apart (List.mem_filterMap.mpr ⟨e2, List.mem_cons_of_mem _ m2, q2⟩)
    have inS := I3.suite gx dx nx xL xF
    have walkC : ∀ {hs2 : List ExceptHandler} {l2 : List (Value × (Addr → Value → Option Addr → TS))}, ClausesN X n hs2 l2 → wAll X.K i Wo D l2 cl dd τ G →
        wpAny (model X.prog X.w) X.A (handleBy (.ref x) X.env hs2) (SP X pins D) X.xe { s1 with heap := g2 } := by
      intro hs2 l2 c2
      induction c2 with
      | nil =>
        intro w
        refine wpAny_handleBy_nil ?_
        obtain ⟨_, _, _, ob2, vs2, Tb, oTb, ts2, gx2, _, dx2, v1, _⟩ := id fly
        unfold PySem.passOn
        refine wpAny_bind (wpAny_field gx2 dx2 v1 ?_)
        have isnt : ¬ ((Value.ref Tb == Value.none) = true) := by simp
        rw [if_neg isnt]
        have leave : wpAny (model X.prog X.w) X.A (setFlight (.ref x) X.env.frame) (fun _ s4 => wpAny (model X.prog X.w) X.A (throw (.ref x) : Sem Flow) (SP X pins D) X.xe s4) X.xe { s1 with heap := g2 } := by
          rw [fr]
          refine HandSPX.setFlight_upZ fly fun g4 held us4 => ?_
          refine wpAny_throw (out _ _ ?_)
          refine ⟨x, gr, s0, pins, τ, G, cl, dd, rfl, I0, ng, (us.trans us2).trans us4, ?_, nx, eos, bare, w⟩
          rw [st]
          exact .inr (.inr held)
        first
          | exact wpAny_bind leave
          | exact wpAny_bind (wpAny_pure (wpAny_bind leave))
      | @cons xn c t b bs p q hs3 l3 nm suite more ih =>
        intro w
        obtain ⟨yes, match_, yesW, noW⟩ := w
        refine wpAny_handleBy_cons (codeAny_handlers_test ?_) (by intro z; cases z)
        have ty : PySem.W.Looks (model X.prog X.w) g2 (typeOf (.ref x)) cl := fun A Q E s4 k z => wpAny_typeOf_ref (k _ _ gx) (by rw [zx.1]; exact z)
        have looks := PySem.W.exm_one (M := model X.prog X.w) I3.kIn ty match_
        have nameOf : ∀ {Q : Value → Shared → Prop} {E : Value → Shared → Prop}, Q c { s1 with heap := g2 } → wpAny (model X.prog X.w) (X.A.mark (some (.ref x))) (eval (.Name xn p) X.env) Q E { s1 with heap := g2 } := by
          intro Q E z
          obtain ⟨gl, db, m | ⟨m, bt, nn⟩⟩ := nm
          · exact ld_glob (X := X.suite x ((x, ob) :: (X.pn ++ pins))) inS gl m z db
          · exact ld_blt (X := X.suite x ((x, ob) :: (X.pn ++ pins))) inS gl m bt z nn db
        refine nameOf (looks.here ?_)
        cases yes with
        | false =>
          show wpAny _ X.A (handleBy (.ref x) X.env hs3) _ _ _
          exact ih (noW rfl)
        | true =>
          refine codeAny_handlers_suite_as ?_
          refine HandSPX.lands_againZ fly fun g4 fly4 us4 => ?_
          have I4 : Inv X pins τ G { s1 with heap := g4 } := I0.landed ng fly4.1 ((us.trans us2).trans us4) eos bare
          obtain ⟨ob4, vs4, gx4, zx4, dx4⟩ := fly4.there
          have inS4 := I4.suite gx4 dx4 nx xL xF
          refine store_ok (X := X.suite x ((x, ob4) :: (X.pn ++ pins))) (v := .ref x) inS4 nd at_ (.inl lc) rfl (fun s5 inS5 => ?_) (.inr lc)
          refine wpAny_mono ((suite x ob4 cl dd (X.pn ++ pins) zx4 ⟨_, dx4⟩).run [] s5 _ G _ inS5 (yesW rfl x nx)) (fun fl s6 got => ?_) (fun _ _ z => False.elim z)
          have gone : ∀ {τ6 : L2.St} {G6 : Hp} {Q : Shared → Prop}, Inv (X.suite x ((x, ob4) :: (X.pn ++ pins))) [] τ6 G6 s6 → (∀ s7, Inv X pins (τ6.set i none) G6 s7 → Q s7) →
              wpAny (model X.prog X.w) X.A (do bindName X.env n .none; unbindBehindTheSuite X.env n q) (fun _ s7 => Q s7) X.xe s6 := by
            intro τ6 G6 Q in6 z
            exact gone_ok (in6.unsuite okX) nd at_ lc z
          cases fl with
          | ret u =>
            obtain ⟨v6, τ6, G6, in6, r6, z⟩ := got
            exact gone in6 fun s7 I7 => ⟨_, _, _, I7, r6, z⟩
          | next =>
            obtain ⟨τ6, G6, in6, z⟩ := got
            exact gone in6 fun s7 I7 => ⟨_, _, I7, z⟩
          | brk =>
            obtain ⟨τ6, G6, in6, z⟩ := got
            exact gone in6 fun s7 I7 => ⟨_, _, I7, z⟩
          | cont =>
            obtain ⟨τ6, G6, in6, z⟩ := got
            exact gone in6 fun s7 I7 => ⟨_, _, I7, z⟩
    exact walkC cs want2
  refine wpAny_mono ((hb (wAll X.K i Wo D l) (X.pn ++ pins) after caught PassesOwn.looking).run [] s σ H D (I.toTry _) want) (fun fl s1 got => ?_) (fun _ _ z => z)
  cases fl with
  | ret u =>
    obtain ⟨v, τ, G, I2, r2, z⟩ := got
    exact ⟨v, τ, G, I2.ofTry okX, r2, z⟩
  | next =>
    obtain ⟨τ, G, I2, z⟩ := got
    exact wpAny_execs_nil ⟨τ, G, I2.ofTry okX, z⟩
  | brk =>
    obtain ⟨τ, G, I2, z⟩ := got
    exact ⟨τ, G, I2.ofTry okX, z⟩
  | cont =>
    obtain ⟨τ, G, I2, z⟩ := got
    exact ⟨τ, G, I2.ofTry okX, z⟩
end
end HX

set_option Elab.async false
set_option linter.all false
set_option maxRecDepth 100000
set_option maxHeartbeats 2000000

namespace Kx
open PySem PySem.Spec PyProof.Rows L2 HX
open Evl (Ex)
local macro_rules | `(tactic| walk_at "side") => `(tactic| first | assumption | ((try dsimp only); first | assumption | decide +kernel | omega | exact ⟨by decide, by decide⟩ | (left; decide) | (left; omega) | (refine Or.inl ⟨?_, ?_⟩ <;> omega) | (refine Or.inr ⟨?_, ?_⟩ <;> omega)))
local macro_rules | `(tactic| walk_at "heap") => `(tactic| first | assumption | exact upd_same | exact Or.inl (by assumption) | exact Or.inl upd_same)
local macro_rules | `(tactic| walk_at "item") => `(tactic| first | exact rfl | exact atI_nat (j := 0) rfl | exact atI_nat (j := 1) rfl | exact atI_nat (j := 2) rfl | assumption)
local macro_rules | `(tactic| walk_at "rd") => `(tactic| repeat (first
  | ((with_reducible refine' go_var ?hv ?_); (case hv => exact rfl))
  | with_reducible refine' go_c ?_
  | with_reducible refine' go_op ?_
  | with_reducible refine' go_seq ?_
  | with_reducible refine' go_asg ?_
  | with_reducible refine' go_name ?_
  | with_reducible refine' go_cons ?_
  | with_reducible refine' go_nil ?_
  | with_reducible refine' go_cb ?_
  | with_reducible refine' go_call ?_
  | with_reducible refine' go_ifS ?_
  | with_reducible refine' go_test ?_
  | with_reducible refine' go_bl ?_
  | with_reducible refine' go_ret ?_
  | with_reducible refine' go_I0 ?_
  | ((with_reducible refine' go_I ?cc ?_); (case cc => walk_at "side"))
  | ((with_reducible refine' go_ixL ?hh ?hk ?_); (case hh => walk_at "heap"); (case hk => walk_at "item"))
  | ((with_reducible refine' go_ixT ?hh ?hk ?_); (case hh => walk_at "heap"); (case hk => walk_at "item"))
  | ((with_reducible refine' go_lenL ?hh ?_); (case hh => walk_at "heap"))
  | ((with_reducible refine' go_lenT ?hh ?_); (case hh => walk_at "heap"))
  | ((with_reducible refine' go_setL ?hh ?hk ?_); (case hh => walk_at "heap"); (case hk => walk_at "item"))
  | with_reducible refine' go_abs ?_
  | with_reducible refine' go_max ?_
  | with_reducible refine' go_min ?_
  | with_reducible refine' go_int ?_
  | with_reducible refine' go_intB ?_
  | (with_reducible refine' go_eq rfl ?_)
  | (with_reducible refine' go_ne rfl ?_)
  | with_reducible refine' go_isN ?_
  | with_reducible refine' go_notN ?_
  | with_reducible refine' go_if ?_
  | with_reducible refine' go_sub ?_
  | with_reducible refine' go_par ?_
  | with_reducible refine' go_sl ?_
  | with_reducible refine' go_part ?_
  | with_reducible refine' go_pint ?_
  | with_reducible refine' go_nopart ?_
  | ((with_reducible refine' go_lenL ?hh ?_); (case hh => walk_at "heap"))
  | ((with_reducible refine' go_lenT ?hh ?_); (case hh => walk_at "heap"))
  | ((with_reducible refine' go_lenS ?hh ?_); (case hh => assumption))
  | with_reducible refine' go_gcons ?_
  | with_reducible refine' go_gnil ?_
  | with_reducible refine' go_kw ?_
  | with_reducible refine' go_par2 ?_
  | with_reducible refine' go_next ?_
  | with_reducible refine' go_drop ?_
  | with_reducible refine' go_and ?_
  | with_reducible refine' go_or ?_
  | with_reducible refine' go_not ?_
  | with_reducible refine' go_B ?_
  | with_reducible refine' go_andV ?_
  | with_reducible refine' go_orV ?_
  | with_reducible refine' go_notV ?_
  | with_reducible refine' go_chain ?_
  | with_reducible refine' go_un ?_
  | with_reducible refine' go_U ?_
  | with_reducible refine' go_bm ?_
  | with_reducible refine' go_tup ?_
  | with_reducible refine' go_lst ?_
  | with_reducible refine' go_forR1 ?_
  | with_reducible refine' go_forR2 ?_
  | with_reducible refine' go_forL ?_
  | with_reducible refine' go_forT ?_
  | with_reducible refine' go_forE ?_
  | with_reducible refine' go_lcR1 ?_
  | with_reducible refine' go_lcL ?_
  | with_reducible refine' go_lcT ?_
  | ((with_reducible refine' go_tyL ?hh ?_); (case hh => walk_at "heap"))
  | ((with_reducible refine' go_new ?hz ?_); (case hz => exact Nat.le_of_ble_eq_true rfl))
  | (with_reducible refine' ⟨_, rfl, ?_⟩)
  ))
--MACEND
/-! ### a def that may raise, called by its name -/
def HasX (P : Program) (w : World) (K : PySem.W.Frag) (mg : Str → Option Value) (base : Heap) (k : Nat) (x : Str) (sp : Sp) : Prop :=
  ∃ (f : Addr) (fd : FuncData) (ps : List Str), FnOk P w K mg base (L2N.CX P w) k f fd ps sp ∧ mg x = some (.ref f) ∧ PySem.W.keepIn K (.ref f) = true ∧ Binds K fd ps []
section
variable {X : Cx} {k n : Nat} {sp : Sp} {x : Str} {p pos : Pos} {e : Expr} {es : List Expr} {t : TA} {E : L2.St → XK}
theorem pe_hsS (h : HasX X.prog X.w X.K X.mg X.base k x sp) (hr : Room n X.A) (hg : Gl X x) (hx : ∀ σ, PassesAt (L2N.CX X.prog X.w) X σ (E σ)) (ha : PA X (e :: es) t) (hkn : k ≤ n := by decide) (hdb : (x == ("__debug__" : Str)) = false := by decide)
    (he : starEach (e :: es) X.env = (false, eval e X.env) :: starEach es X.env := by rfl) (hpl : (backTo pos (starEach es X.env)).any (·.1) = false := by rfl) :
    PE X (.Call (.Name x p) (e :: es) [] pos) (tCallS sp E t) := by
  obtain ⟨f, fd, ps, F, hm, hk, hb⟩ := h
  exact pe_callS F (hr.mono hkn) hg hm hk hb hx ha hdb he hpl
end
theorem go_callS {sp : Sp} {E : L2.St → XK} {t : TA} {σ : L2.St} {H : Hp} {Q : VK} (h : t σ H fun vs H1 => sp vs H1 Q (E σ)) : tCallS sp E t σ H Q := h
theorem go_raiseErr {fld : Str} {C : Addr} {W : WX} {ta : TA} {D : Ends} {σ : L2.St} {H : Hp} (h : ta σ H fun vs H1 => ∃ v, vs = [v] ∧ ∀ d, H1 d = none → W (.ref C) (some d) σ (upd H1 d (.xd [(fld, v)]))) : tRaiseErr fld C W ta D σ H := h
/-! ### what is wrong with a receiver -/
def isDialD : PyData → Bool
  | .tuple (.str k :: _) => decide (k = "dial")
  | _ => false
def fltS : List PyData → Nat → Bool → Option Nat
  | [], _, _ => none
  | s :: ss, i, has => if isStage s then (if isDialD s then (if has then some i else fltS ss (i + 1) true) else fltS ss (i + 1) has) else some i
def fault : PyData → Option (Option Nat)
  | .tuple [.list ss, r] => if isFrame (.tuple [.list ss, r]) then (match fltS ss 0 false with | some i => some (some i) | none => if isRate r then none else some (some ss.length)) else some none
  | _ => some none
def fltV : Option Nat → V
  | none => .non
  | some i => .int i
def spRecvE (C : Addr) : Sp := fun vs H Q E => ∃ x d, vs = [x] ∧ Dq H x d ∧ (fault d = none → ∀ H', Ex H H' → Q .non H') ∧ (∀ f, fault d = some f → ∀ H' dd, Ex H H' → H dd = none → H' dd = some (.xd [("index", fltV f)]) → E (.ref C) (some dd) H')
theorem frame_no {d : PyData} (h : isFrame d = false) : fault d = some none := by
  unfold fault
  split
  · rw [h]; rfl
  · rfl
theorem frame_yes {d : PyData} (h : isFrame d = true) : ∃ ss r, d = .tuple [.list ss, r] ∧ fault d = (match fltS ss 0 false with | some i => some (some i) | none => if isRate r then none else some (some ss.length)) := by
  unfold isFrame at h
  split at h
  · rename_i ss r
    refine ⟨ss, r, rfl, ?_⟩
    show (if isFrame (.tuple [.list ss, r]) = true then _ else _) = _
    rw [if_pos (show isFrame (.tuple [.list ss, r]) = true from h)]
  · cases h
/-- what has been seen behind i stages, all right -/
def seen : List PyData → Nat → Bool → Option Bool
  | _, 0, has => some has
  | [], _ + 1, has => some has
  | s :: ss, n + 1, has => if isStage s then (if isDialD s then (if has then none else seen ss n true) else seen ss n has) else none
theorem flt_seen : ∀ (ss : List PyData) (n j : Nat) (has h2 : Bool), seen ss n has = some h2 → n ≤ ss.length → fltS ss j has = fltS (ss.drop n) (j + n) h2
  | ss, 0, j, has, h2, h, _ => by
    cases ss <;> (simp [seen] at h; subst h; rfl)
  | [], n + 1, _, _, _, _, hn => by simp at hn
  | s :: ss, n + 1, j, has, h2, h, hn => by
    have hn' : n ≤ ss.length := by simpa using hn
    have e : j + (n + 1) = j + 1 + n := by omega
    rw [List.drop_succ_cons, e]
    unfold seen at h
    show (if isStage s = true then (if isDialD s = true then (if has = true then some j else fltS ss (j + 1) true) else fltS ss (j + 1) has) else some j) = _
    split at h
    · rename_i q
      rw [if_pos q]
      split at h
      · rename_i q2
        rw [if_pos q2]
        split at h
        · cases h
        · rename_i q3
          rw [if_neg q3]
          exact flt_seen ss n (j + 1) true h2 h hn'
      · rename_i q2
        rw [if_neg q2]
        exact flt_seen ss n (j + 1) has h2 h hn'
    · cases h
theorem seen_more : ∀ (ss : List PyData) (n : Nat) (has h2 : Bool) (s : PyData), seen ss n has = some h2 → ss[n]? = some s → isStage s = true → (isDialD s = true → h2 = false) → seen ss (n + 1) has = some (h2 || isDialD s)
  | [], n, _, _, _, _, h, _, _ => by simp at h
  | t :: ss, 0, has, h2, s, h, hs, h1, h3 => by
    cases h
    obtain rfl : t = s := by simpa using hs
    unfold seen
    rw [if_pos h1]
    cases q : isDialD t with
    | true =>
      rw [h3 q]
      simp [seen]
    | false => simp [seen]
  | t :: ss, n + 1, has, h2, s, h, hs, h1, h3 => by
    unfold seen at h ⊢
    have hs' : ss[n]? = some s := by simpa using hs
    split at h
    · rename_i q
      rw [if_pos q]
      split at h
      · rename_i q2
        rw [if_pos q2]
        split at h
        · cases h
        · rename_i q3
          rw [if_neg q3]
          exact seen_more ss n true h2 s h hs' h1 h3
      · rename_i q2
        rw [if_neg q2]
        exact seen_more ss n has h2 s h hs' h1 h3
    · cases h
theorem stage_nm {H : Hp} {x : V} {d : PyData} (h : Dq H x d) (hs : isStage d = true) : ∃ a xs k, x = .ref a ∧ Rd H a (.tup xs) ∧ atI xs 0 = some (.str k) ∧ isDialD d = decide (V.str k = V.str "dial") := by
  unfold isStage at hs
  split at hs
  · rename_i k d2 ds
    obtain ⟨a, xs, rfl, ha, hda⟩ := h.tupleAt
    cases hda with
    | cons q1 q2 =>
      cases q1
      exact ⟨a, _, k, rfl, ha, atI_nat (j := 0) rfl, by simp [isDialD]⟩
  · cases hs
section
variable {P : Program} {w : World} {K : PySem.W.Frag} {mg : Str → Option Value} {base : Heap} {C fI : Addr}
abbrev s_check_receiver : Stmt := top 18
theorem sc_check_receiver : FnScope ["receiver", "stages", "rate", "has_dial", "index", "stage"] ["receiver"] (defScope s_check_receiver) := ⟨rfl, rfl, rfl, by decide +kernel, rfl, by decide +kernel, by decide +kernel⟩
theorem ok_check_receiver {f : Addr} {fd : FuncData} (F : Fun K "check_receiver" "check_receiver" s_check_receiver f fd) (T_InvalidReceiver : SupX.ErrTxt P K mg "InvalidReceiver" "index" C fI) (m_enumerate : mg "enumerate" = none) (m_len : mg "len" = none) (h__is_frame : Has P w K mg base 1 "_is_frame" (spLook isFrame))
    (h_is_stage : Has P w K mg base 4 "is_stage" (spLook isStage)) (h_is_rate : Has P w K mg base 2 "is_rate" (spLook isRate)) : FnOk P w K mg base (L2N.CX P w) 5 f fd ["receiver"] (spRecvE C) := by
  refine okXN F sc_check_receiver (fun vs H Q E h => ?_) (fun cdv A outer s H vs Q E hr h => ?_)
  · obtain ⟨x, d, rfl, _⟩ := h
    rfl
  · obtain ⟨x, d, rfl, hd, k1, k2⟩ := h
    refine ⟨_, (pss_cons (ps_if (pt_not (pt_val (pe_hs h__is_frame hr rfl (pa_cons (pv 0) pa_nil))))
  (pss_one (ps_raiseErrN rfl T_InvalidReceiver hr (L2N.takes_of rfl rfl rfl rfl) (pa_cons pe_non pa_nil)))
  pss_nil)
  (pss_cons (ps_asg (pv 0) (pg_tup (by rfl) (pgs_cons (pg_name (i := 1) sc_check_receiver.nd rfl (Or.inl rfl)) (pgs_cons (pg_name (i := 2) sc_check_receiver.nd rfl (Or.inl rfl)) pgs_nil))))
  (pss_cons (ps_set (i := 3) sc_check_receiver.nd rfl (Or.inl rfl) pe_bl)
  (pss_cons (ps_for (passes_of rfl) rfl (pi_enum (by rfl) m_enumerate (pa_cons (pv 1) pa_nil)) (pg_tup (by rfl) (pgs_cons (pg_name (i := 4) sc_check_receiver.nd rfl (Or.inl rfl)) (pgs_cons (pg_name (i := 5) sc_check_receiver.nd rfl (Or.inl rfl)) pgs_nil)))
  (pss_cons (ps_if (pt_not (pt_val (pe_hs h_is_stage hr rfl (pa_cons (pv 5) pa_nil))))
  (pss_one (ps_raiseErrN rfl T_InvalidReceiver hr (L2N.takes_of rfl rfl rfl rfl) (pa_cons (pv 4) pa_nil)))
  pss_nil)
  (pss_one (ps_if (pt_cmpR op_eq (pe_ix ix_tup (pv 5) pe_int (fun _ _ => rfl)) pe_str (nomark _))
  (pss_cons (ps_if (pt_val (pv 3))
  (pss_one (ps_raiseErrN rfl T_InvalidReceiver hr (L2N.takes_of rfl rfl rfl rfl) (pa_cons (pv 4) pa_nil)))
  pss_nil)
  (pss_one (ps_set (i := 3) sc_check_receiver.nd rfl (Or.inl rfl) pe_bl)))
  pss_nil))))
  (pss_one (ps_if (pt_not (pt_val (pe_hs h_is_rate hr rfl (pa_cons (pv 2) pa_nil))))
  (pss_one (ps_raiseErrN rfl T_InvalidReceiver hr (L2N.takes_of rfl rfl rfl rfl) (pa_cons (pe_callB call_lenQ rfl m_len PySem.boot_len (pa_cons (pv 1) pa_nil)) pa_nil)))
  pss_nil)))))), ?_⟩
    walk_at "rd"
    refine look_go hd fun H1 e1 => ?_
    walk_at "rd"
    cases hf : isFrame d with
    | false =>
      refine iteT ?_
      refine ⟨_, rfl, fun dd nd => ?_⟩
      have fr : H dd = none := by
        cases z : H dd with
        | none => rfl
        | some o => rw [e1 _ _ z] at nd; cases nd
      exact k2 none (frame_no hf) _ dd (e1.trans (Ex.new nd)) fr upd_same
    | true =>
      refine iteF ?_
      walk_at "rd"
      obtain ⟨ss, r, rfl, hfl⟩ := frame_yes hf
      obtain ⟨a, xs, rfl, ha, hda⟩ := (hd.ex e1).tupleAt
      obtain ⟨v1, v2, d1, d2, rfl, ed, hv1, hv2⟩ := dqa2 hda rfl
      obtain ⟨rfl, rfl⟩ : PyData.list ss = d1 ∧ r = d2 := by simpa using ed
      obtain ⟨l, ys, rfl, hl, hys⟩ := hv1.listAt
      refine go_gtup (.inl ha) rfl ?_
      walk_at "rd"
      have len8 : ss.length ≤ 8 := by
        simp [isFrame] at hf
        exact hf.2
      have fresh : ∀ {G : Hp} {dd : Addr}, Ex H G → G dd = none → H dd = none := fun {G dd} e n => by
        cases z : H dd with
        | none => rfl
        | some o => rw [e _ _ z] at n; cases n
      refine ⟨l, ys, rfl, .inl hl, ?_⟩
      refine run_forE ys (fun i σ G => ∃ (v4 v5 : Option V) (has : Bool), σ = [some (.ref a), some (.ref l), some v2, some (.bl has), v4, v5] ∧ Ex H1 G ∧ seen ss i false = some has) ?_ ?_ ?_ ?_
      · exact ⟨_, _, false, rfl, Ex.refl _, by cases ss <;> rfl⟩
      · rintro i σ G _ ⟨v4, v5, has, rfl, e, _⟩
        exact .inl (Evl.ex_rd e hl)
      · rintro i y σ G Tp hi ⟨v4, v5, has, rfl, e, hseen⟩ hT
        obtain ⟨sd, hs, hds⟩ := hys.get hi
        have hlt : i < ss.length := (List.getElem?_eq_some_iff.mp hs).1
        have hdrop : ss.drop i = sd :: ss.drop (i + 1) := by
          rw [List.drop_eq_getElem_cons hlt, (List.getElem?_eq_some_iff.mp hs).2]
        have hfs := flt_seen ss i 0 false has hseen (Nat.le_of_lt hlt)
        rw [hdrop, Nat.zero_add] at hfs
        have e2 := e.trans (Ex.new (o := HO.tup [.int (i : Nat), y]) hT)
        refine go_gtup (.inl (.inl upd_same)) rfl ?_
        walk_at "rd"
        refine look_go (hds.ex e2) fun H2 e3 => ?_
        walk_at "rd"
        have e4 := (e1.trans e2).trans e3
        cases hst : isStage sd with
        | false =>
          refine iteT ?_
          refine ⟨_, rfl, _, rfl, fun dd nd => ?_⟩
          refine k2 (some i) ?_ _ dd (e4.trans (Ex.new nd)) (fresh e4 nd) upd_same
          rw [hfl, hfs]
          simp [fltS, hst]
        | true =>
          refine iteF ?_
          obtain ⟨b2, zs, kn, rfl, hb, hz, hdl⟩ := stage_nm (hds.ex (e2.trans e3)) hst
          walk_at "rd"
          rw [← hdl]
          cases hdd : isDialD sd with
          | true =>
            refine iteT ?_
            walk_at "rd"
            cases has with
            | true =>
              refine iteT ?_
              refine ⟨_, rfl, _, rfl, fun dd nd => ?_⟩
              refine k2 (some i) ?_ _ dd (e4.trans (Ex.new nd)) (fresh e4 nd) upd_same
              rw [hfl, hfs]
              simp [fltS, hst, hdd]
            | false =>
              refine iteF ?_
              walk_at "rd"
              refine ⟨_, _, true, rfl, e2.trans e3, ?_⟩
              have := seen_more ss i false false sd hseen hs hst fun _ => rfl
              rw [hdd] at this
              exact this
          | false =>
            refine iteF ?_
            walk_at "rd"
            refine ⟨_, _, has, rfl, e2.trans e3, ?_⟩
            have := seen_more ss i false has sd hseen hs hst fun z => by rw [hdd] at z; cases z
            rw [hdd] at this
            simpa using this
      · rintro σ G ⟨v4, v5, has, rfl, e, hseen⟩
        have hlen : ys.length = ss.length := hys.len
        rw [hlen] at hseen
        have hfs := flt_seen ss ss.length 0 false has hseen (Nat.le_refl _)
        rw [List.drop_length] at hfs
        have hno : fltS ss 0 false = none := by rw [hfs]; rfl
        rw [hno] at hfl
        walk_at "rd"
        refine look_go (hv2.ex e) fun H2 e2 => ?_
        walk_at "rd"
        have e4 := (e1.trans e).trans e2
        cases hrt : isRate r with
        | true =>
          refine iteF ?_
          walk_at "rd"
          exact k1 (by rw [hfl, hrt]; rfl) _ e4
        | false =>
          refine iteT ?_
          have hl2 := Evl.ex_rd (e.trans e2) hl
          refine go_raiseErr ?_
          walk_at "rd"
          intro dd nd
          refine k2 (some ss.length) ?_ _ dd (e4.trans (Ex.new nd)) (fresh e4 nd) ?_
          · rw [hfl, hrt]; rfl
          · rw [← hlen]; exact upd_same
end
end Kx

set_option Elab.async false
set_option linter.all false
set_option maxRecDepth 100000
set_option maxHeartbeats 2000000

namespace Kx
open PySem PySem.Spec PyProof.Rows L2 HX
open Evl (Ex)
local macro_rules | `(tactic| walk_at "side") => `(tactic| first | assumption | ((try dsimp only); first | assumption | decide +kernel | omega | exact ⟨by decide, by decide⟩ | (left; decide) | (left; omega) | (refine Or.inl ⟨?_, ?_⟩ <;> omega) | (refine Or.inr ⟨?_, ?_⟩ <;> omega)))
local macro_rules | `(tactic| walk_at "heap") => `(tactic| first | assumption | exact upd_same | exact Or.inl (by assumption) | exact Or.inl upd_same)
local macro_rules | `(tactic| walk_at "item") => `(tactic| first | exact rfl | exact atI_nat (j := 0) rfl | exact atI_nat (j := 1) rfl | exact atI_nat (j := 2) rfl | assumption)
local macro_rules | `(tactic| walk_at "rd") => `(tactic| repeat (first
  | ((with_reducible refine' go_var ?hv ?_); (case hv => exact rfl))
  | with_reducible refine' go_c ?_
  | with_reducible refine' go_op ?_
  | with_reducible refine' go_seq ?_
  | with_reducible refine' go_asg ?_
  | with_reducible refine' go_name ?_
  | with_reducible refine' go_cons ?_
  | with_reducible refine' go_nil ?_
  | with_reducible refine' go_cb ?_
  | with_reducible refine' go_call ?_
  | with_reducible refine' go_ifS ?_
  | with_reducible refine' go_test ?_
  | with_reducible refine' go_bl ?_
  | with_reducible refine' go_ret ?_
  | with_reducible refine' go_I0 ?_
  | ((with_reducible refine' go_I ?cc ?_); (case cc => walk_at "side"))
  | ((with_reducible refine' go_ixL ?hh ?hk ?_); (case hh => walk_at "heap"); (case hk => walk_at "item"))
  | ((with_reducible refine' go_ixT ?hh ?hk ?_); (case hh => walk_at "heap"); (case hk => walk_at "item"))
  | ((with_reducible refine' go_lenL ?hh ?_); (case hh => walk_at "heap"))
  | ((with_reducible refine' go_lenT ?hh ?_); (case hh => walk_at "heap"))
  | ((with_reducible refine' go_setL ?hh ?hk ?_); (case hh => walk_at "heap"); (case hk => walk_at "item"))
  | with_reducible refine' go_abs ?_
  | with_reducible refine' go_max ?_
  | with_reducible refine' go_min ?_
  | with_reducible refine' go_int ?_
  | with_reducible refine' go_intB ?_
  | (with_reducible refine' go_eq rfl ?_)
  | (with_reducible refine' go_ne rfl ?_)
  | with_reducible refine' go_isN ?_
  | with_reducible refine' go_notN ?_
  | with_reducible refine' go_if ?_
  | with_reducible refine' go_sub ?_
  | with_reducible refine' go_par ?_
  | with_reducible refine' go_sl ?_
  | with_reducible refine' go_part ?_
  | with_reducible refine' go_pint ?_
  | with_reducible refine' go_nopart ?_
  | ((with_reducible refine' go_lenL ?hh ?_); (case hh => walk_at "heap"))
  | ((with_reducible refine' go_lenT ?hh ?_); (case hh => walk_at "heap"))
  | ((with_reducible refine' go_lenS ?hh ?_); (case hh => assumption))
  | with_reducible refine' go_gcons ?_
  | with_reducible refine' go_gnil ?_
  | with_reducible refine' go_kw ?_
  | with_reducible refine' go_par2 ?_
  | with_reducible refine' go_next ?_
  | with_reducible refine' go_drop ?_
  | with_reducible refine' go_and ?_
  | with_reducible refine' go_or ?_
  | with_reducible refine' go_not ?_
  | with_reducible refine' go_B ?_
  | with_reducible refine' go_andV ?_
  | with_reducible refine' go_orV ?_
  | with_reducible refine' go_notV ?_
  | with_reducible refine' go_chain ?_
  | with_reducible refine' go_un ?_
  | with_reducible refine' go_U ?_
  | with_reducible refine' go_bm ?_
  | with_reducible refine' go_tup ?_
  | with_reducible refine' go_lst ?_
  | ((with_reducible refine' go_listL ?hh ?_); (case hh => walk_at "heap"))
  | with_reducible refine' go_forR1 ?_
  | with_reducible refine' go_forR2 ?_
  | with_reducible refine' go_forL ?_
  | with_reducible refine' go_forT ?_
  | with_reducible refine' go_forE ?_
  | with_reducible refine' go_lcR1 ?_
  | with_reducible refine' go_lcL ?_
  | with_reducible refine' go_lcT ?_
  | ((with_reducible refine' go_tyL ?hh ?_); (case hh => walk_at "heap"))
  | ((with_reducible refine' go_new ?hz ?_); (case hz => exact Nat.le_of_ble_eq_true rfl))
  | (with_reducible refine' ⟨_, rfl, ?_⟩)
  ))
--MACEND
/-- what the top has written of an own error without an __init__ -/
structure Err (K : PySem.W.Frag) (mg : Str → Option Value) (x : Str) (C : Addr) : Prop where
  g : mg x = some (.ref C)
  x : PySem.W.excIn K C [.type "ValueError", .type "Exception", .type "BaseException", .type "object"] "ValueError.__new__" = true
  k : PySem.W.keepIn K (.ref C) = true
  b : PySem.W.subIn K (.ref C) (.type "BaseException") = some true
  t : PySem.W.typeIn K (.ref C) = some (.type "type")
section
variable {P : Program} {w : World} {K : PySem.W.Frag} {mg : Str → Option Value} {base : Heap}
/-- a look that may raise: a right value passes, a wrong one is told -/
def spCheckE (f : PyData → Bool) (C : Addr) : Sp := fun vs H Q E => ∃ x d, vs = [x] ∧ Dq H x d ∧ (f d = true → ∀ H', Ex H H' → Q .non H') ∧ (f d = false → ∀ H', Ex H H' → E (.ref C) none H')
abbrev s_check_dial : Stmt := top 19
theorem sc_check_dial : FnScope ["dial"] ["dial"] (defScope s_check_dial) := ⟨rfl, rfl, rfl, by decide +kernel, rfl, by decide +kernel, by decide +kernel⟩
theorem ok_check_dialE {C f : Addr} {fd : FuncData} (F : Fun K "check_dial" "check_dial" s_check_dial f fd) (T_InvalidDial : Err K mg "InvalidDial" C) (h_is_integer : Has P w K mg base 1 "is_integer" (spLook isInt)) :
    FnOk P w K mg base (L2N.CX P w) 2 f fd ["dial"] (spCheckE isInt C) := by
  refine okXN F sc_check_dial (fun vs H Q E h => ?_) (fun cdv A outer s H vs Q E hr h => ?_)
  · obtain ⟨x, d, rfl, _⟩ := h
    rfl
  · obtain ⟨x, d, rfl, hd, k1, k2⟩ := h
    refine ⟨_, (pss_one (ps_if (pt_not (pt_val (pe_hs h_is_integer hr rfl (pa_cons (pv 0) pa_nil))))
  (pss_one (L2N.ps_raise rfl (L2N.takes_of rfl rfl rfl rfl) (L2N.pmk_own PySem.F.excBase_ValueError T_InvalidDial.x T_InvalidDial.g T_InvalidDial.k (raises_own T_InvalidDial.b T_InvalidDial.t) rfl)))
  pss_nil)), ?_⟩
    walk_at "rd"
    refine look_go hd fun H1 e1 => ?_
    walk_at "rd"
    cases q : isInt d with
    | true =>
      refine iteF ?_
      walk_at "rd"
      exact k1 q _ e1
    | false =>
      refine iteT ?_
      exact k2 q _ e1
abbrev s_check_signal : Stmt := top 20
theorem sc_check_signal : FnScope ["signal"] ["signal"] (defScope s_check_signal) := ⟨rfl, rfl, rfl, by decide +kernel, rfl, by decide +kernel, by decide +kernel⟩
theorem ok_check_signalE {C f : Addr} {fd : FuncData} (F : Fun K "check_signal" "check_signal" s_check_signal f fd) (T_InvalidSignal : Err K mg "InvalidSignal" C) (h_is_natural : Has P w K mg base 2 "is_natural" (spLook isNat)) :
    FnOk P w K mg base (L2N.CX P w) 3 f fd ["signal"] (spCheckE isNat C) := by
  refine okXN F sc_check_signal (fun vs H Q E h => ?_) (fun cdv A outer s H vs Q E hr h => ?_)
  · obtain ⟨x, d, rfl, _⟩ := h
    rfl
  · obtain ⟨x, d, rfl, hd, k1, k2⟩ := h
    refine ⟨_, (pss_one (ps_if (pt_not (pt_val (pe_hs h_is_natural hr rfl (pa_cons (pv 0) pa_nil))))
  (pss_one (L2N.ps_raise rfl (L2N.takes_of rfl rfl rfl rfl) (L2N.pmk_own PySem.F.excBase_ValueError T_InvalidSignal.x T_InvalidSignal.g T_InvalidSignal.k (raises_own T_InvalidSignal.b T_InvalidSignal.t) rfl)))
  pss_nil)), ?_⟩
    walk_at "rd"
    refine look_go hd fun H1 e1 => ?_
    walk_at "rd"
    cases q : isNat d with
    | true =>
      refine iteF ?_
      walk_at "rd"
      exact k1 q _ e1
    | false =>
      refine iteT ?_
      exact k2 q _ e1
end
end Kx

set_option Elab.async false
set_option linter.all false
set_option maxRecDepth 100000
set_option maxHeartbeats 2000000
/-! ranges whose ends are of any size -/
namespace HX
open PySem PySem.Spec PyProof.Rows L2
theorem turn_long {P : Program} {w : World} {K : PySem.W.Frag} {tg : Expr} (it : Addr) (lo : Int) (n : Nat) : Turn P w K tg (Itr lo n) [it] it (fun i h => IsLongIter h it (lo + (i : Nat) * 1) ((n : Int) - (i : Nat)) 1) where
  mem := by simp
  obj := fun i h st b hb => by
    obtain rfl : b = it := by simpa using hb
    exact ⟨_, st, fun v z => nomatch z⟩
  keep := fun i h h' st k => k it (by simp) _ st
  item := by
    intro X hP hw hK hc i pins s σ H E I hf st hg
    subst hP hw hK
    obtain ⟨f0, f1, f2, f3, f4, f5⟩ := hf it (by simp)
    have W := Walks.longrange (prog := X.prog) (w := X.w) (I.ok.hd hc) it lo 1 n
    refine W.item i s _ _ hg st fun v h' tk hv st' kk => ?_
    obtain ⟨t, rfl⟩ := hv
    have I1 : Inv X pins σ H { s with heap := h', toks := tk } := I.turned (fun b o hb e => kk b o (by simpa using hb) e) f0 f1 f3 f4 f5
    refine ⟨_, rfl, go_of (s := { s with heap := h', toks := tk }) (n := "longrange_iterator") st' rfl rfl (by decide) ⟨.int (lo + i), H, I1, ⟨t, ?_⟩, ⟨rfl, rfl⟩, st', fun b hb => (hf b hb).1⟩⟩
    rw [Int.mul_one]
  done := by
    intro X hP hw hK hc i pins s σ H E I hf st hg
    subst hP hw hK
    obtain ⟨f0, f1, f2, f3, f4, f5⟩ := hf it (by simp)
    exact wpAny_pyNext_long_end (I.ok.hd hc) st (by have : n ≤ i := hg; omega) fun h' eb => ⟨rfl, I.turned (t' := s.toks) (fun b o hb e => eb b o hb e) f0 f1 f3 f4 f5⟩
  self := fun _ _ _ _ _ st h => wpAny_pyIter_longiter st h
section
variable {X : Cx} {tg : Expr}
theorem range_itW {pins : List (Addr × Obj)} {σ : L2.St} {H : Hp} {s : Shared} {R : It → Hp → Prop} {E : Value → Shared → Prop} {lo hi : Int} {t u v : Tok} {tk : Nat} (I : Inv X pins σ H s) (q : R (Itr lo (hi - lo).toNat) H) :
    wpAny (model X.prog X.w) X.A (pyIter (.ref s.heap.objs.size)) (PIE X pins σ tg R) E { s with heap := s.heap.push { cls := .type "range", data := .fields #[.int lo t, .int hi u, .int 1 v] }, toks := tk } := by
  have I1 : Inv X pins σ H { s with heap := s.heap.push { cls := .type "range", data := .fields #[.int lo t, .int hi u, .int 1 v] }, toks := tk } := I.kept fun b o e => Heap.get?_push_of_some _ e
  have e1 : lo + ((0 : Nat) : Int) * 1 = lo := by simp
  have e2 : (((hi - lo).toNat : Nat) : Int) - ((0 : Nat) : Int) = Builtin.Range.rangeSize lo hi 1 := by rw [rangeSize_one]; split <;> omega
  have fp : ∀ b ∈ [(s.heap.push { cls := .type "range", data := .fields #[.int lo t, .int hi u, .int 1 v] }).objs.size], FpOk X pins H b := fun b hb => by
    obtain rfl : b = (s.heap.push { cls := .type "range", data := .fields #[.int lo t, .int hi u, .int 1 v] }).objs.size := by simpa using hb
    exact I1.fpOk (Nat.le_refl _) (I1.hok.fresh (Nat.le_refl _))
  cases hs : Builtin.Range.small lo hi 1 with
  | true =>
    refine wpAny_pyIter_range (IsRange.new ..) hs ?_
    refine ⟨_, [(s.heap.push { cls := .type "range", data := .fields #[.int lo t, .int hi u, .int 1 v] }).objs.size], _, _, H, rfl, I1.kept (t' := tk) fun b o e => Heap.get?_push_of_some _ e, turn_range _ lo (hi - lo).toNat, ?_, fp, q⟩
    show IsRangeIter _ _ (lo + ((0 : Nat) : Int) * 1) ((((hi - lo).toNat : Nat) : Int) - ((0 : Nat) : Int)) 1
    rw [e1, e2]
    exact Heap.get?_push_size _ rfl
  | false =>
    refine wpAny_pyIter_longrange (IsRange.new ..) hs ?_
    refine ⟨_, [(s.heap.push { cls := .type "range", data := .fields #[.int lo t, .int hi u, .int 1 v] }).objs.size], _, _, H, rfl, I1.kept (t' := tk) fun b o e => Heap.get?_push_of_some _ e, turn_long _ lo (hi - lo).toNat, ?_, fp, q⟩
    show IsLongIter _ _ (lo + ((0 : Nat) : Int) * 1) ((((hi - lo).toNat : Nat) : Int) - ((0 : Nat) : Int)) 1
    rw [e1, e2]
    exact Heap.get?_push_size _ rfl
/-- range(a, b), of any ends -/
def iRng2W (ta : TA) : TI := fun σ H R => ta σ H fun vs H1 => ∃ i j : Int, vs = [.int i, .int j] ∧ R (Itr i (j - i).toNat) H1
theorem pi_range2W {a b : Expr} {ta : TA} {p pos : Pos} (hg : Gl X "range") (hm : X.mg "range" = none) (ha : PA X [a, b] ta) (hs : starEach [a, b] X.env = [(false, eval a X.env), (false, eval b X.env)] := by rfl) (hs2 : starEach [b] X.env = [(false, eval b X.env)] := by rfl) :
    PI X tg (.Call (.Name "range" p) [a, b] [] pos) (iRng2W ta) := by
  refine ⟨fun pins s σ H R I h => ?_⟩
  refine Call_ (ld_blt I hg hm boot_range (PyProof.Rows.callWith_type1 (thn (ha.run pos pins s σ H _ I h) fun us s1 ⟨vs, H1, I1, r1, q1⟩ => ?_) (by rw [hs, hs2]) (by rw [hs2]; rfl)))
  obtain ⟨i, j, rfl, q⟩ := q1
  obtain ⟨u1, u2, rfl, ⟨t, rfl⟩, ⟨t', rfl⟩⟩ := vals2 r1
  exact call_range_2 (range_itW I1 q)
theorem go_lcR2W {ta : TA} {g : TG} {tt : TT} {te : TE} {vs : List Nat} {σ : L2.St} {H : Hp} {Q : VK} (h : ta σ H fun us H1 => ∃ i j : Int, us = [.int i, .int j] ∧ lcR i (j - i).toNat g tt te vs σ H1 Q) : tLc (iRng2W ta) g tt te vs σ H Q := h
theorem go_forR2W {ta : TA} {g : TG} {tb : TS} {D : Ends} {σ : L2.St} {H : Hp} (h : ta σ H fun vs H1 => ∃ i j : Int, vs = [.int i, .int j] ∧ forR i (j - i).toNat g tb D σ H1) : tFor (iRng2W ta) g tb D σ H := h
end
end HX

set_option Elab.async false
set_option linter.all false
set_option maxRecDepth 100000
set_option maxHeartbeats 2000000

namespace Kx
open PySem PySem.Spec PyProof.Rows L2 HX
open Evl (Ex)
local macro_rules | `(tactic| walk_at "side") => `(tactic| first | assumption | ((try dsimp only); first | assumption | decide +kernel | omega | exact ⟨by decide, by decide⟩ | (left; decide) | (left; omega) | (refine Or.inl ⟨?_, ?_⟩ <;> omega) | (refine Or.inr ⟨?_, ?_⟩ <;> omega)))
local macro_rules | `(tactic| walk_at "heap") => `(tactic| first | assumption | exact upd_same | exact Or.inl (by assumption) | exact Or.inl upd_same)
local macro_rules | `(tactic| walk_at "item") => `(tactic| first | exact rfl | exact atI_nat (j := 0) rfl | exact atI_nat (j := 1) rfl | exact atI_nat (j := 2) rfl | assumption)
local macro_rules | `(tactic| walk_at "rd") => `(tactic| repeat (first
  | ((with_reducible refine' go_var ?hv ?_); (case hv => exact rfl))
  | with_reducible refine' go_c ?_
  | with_reducible refine' go_op ?_
  | with_reducible refine' go_seq ?_
  | with_reducible refine' go_asg ?_
  | with_reducible refine' go_name ?_
  | with_reducible refine' go_cons ?_
  | with_reducible refine' go_nil ?_
  | with_reducible refine' go_cb ?_
  | with_reducible refine' go_call ?_
  | with_reducible refine' go_ifS ?_
  | with_reducible refine' go_test ?_
  | with_reducible refine' go_bl ?_
  | with_reducible refine' go_ret ?_
  | with_reducible refine' go_I0 ?_
  | ((with_reducible refine' go_I ?cc ?_); (case cc => walk_at "side"))
  | ((with_reducible refine' go_ixL ?hh ?hk ?_); (case hh => walk_at "heap"); (case hk => walk_at "item"))
  | ((with_reducible refine' go_ixT ?hh ?hk ?_); (case hh => walk_at "heap"); (case hk => walk_at "item"))
  | ((with_reducible refine' go_lenL ?hh ?_); (case hh => walk_at "heap"))
  | ((with_reducible refine' go_lenT ?hh ?_); (case hh => walk_at "heap"))
  | ((with_reducible refine' go_setL ?hh ?hk ?_); (case hh => walk_at "heap"); (case hk => walk_at "item"))
  | with_reducible refine' go_abs ?_
  | with_reducible refine' go_max ?_
  | with_reducible refine' go_min ?_
  | with_reducible refine' go_int ?_
  | with_reducible refine' go_intB ?_
  | (with_reducible refine' go_eq rfl ?_)
  | (with_reducible refine' go_ne rfl ?_)
  | with_reducible refine' go_isN ?_
  | with_reducible refine' go_notN ?_
  | with_reducible refine' go_if ?_
  | with_reducible refine' go_sub ?_
  | with_reducible refine' go_par ?_
  | with_reducible refine' go_sl ?_
  | with_reducible refine' go_part ?_
  | with_reducible refine' go_pint ?_
  | with_reducible refine' go_nopart ?_
  | ((with_reducible refine' go_lenL ?hh ?_); (case hh => walk_at "heap"))
  | ((with_reducible refine' go_lenT ?hh ?_); (case hh => walk_at "heap"))
  | ((with_reducible refine' go_lenS ?hh ?_); (case hh => assumption))
  | with_reducible refine' go_gcons ?_
  | with_reducible refine' go_gnil ?_
  | with_reducible refine' go_kw ?_
  | with_reducible refine' go_par2 ?_
  | with_reducible refine' go_next ?_
  | with_reducible refine' go_drop ?_
  | with_reducible refine' go_and ?_
  | with_reducible refine' go_or ?_
  | with_reducible refine' go_not ?_
  | with_reducible refine' go_B ?_
  | with_reducible refine' go_andV ?_
  | with_reducible refine' go_orV ?_
  | with_reducible refine' go_notV ?_
  | with_reducible refine' go_chain ?_
  | with_reducible refine' go_un ?_
  | with_reducible refine' go_U ?_
  | with_reducible refine' go_bm ?_
  | with_reducible refine' go_tup ?_
  | with_reducible refine' go_lst ?_
  | with_reducible refine' go_forR1 ?_
  | with_reducible refine' go_forR2 ?_
  | with_reducible refine' go_forL ?_
  | with_reducible refine' go_forT ?_
  | with_reducible refine' go_forE ?_
  | with_reducible refine' go_lcR1 ?_
  | with_reducible refine' go_lcL ?_
  | with_reducible refine' go_lcT ?_
  | ((with_reducible refine' go_tyL ?hh ?_); (case hh => walk_at "heap"))
  | ((with_reducible refine' go_new ?hz ?_); (case hz => exact Nat.le_of_ble_eq_true rfl))
  | (with_reducible refine' ⟨_, rfl, ?_⟩)
  ))
--MACEND
/-! ### folds -/
abbrev Sm (x : Int) : Prop := x.natAbs < 2 ^ 3000
def rDmW : List V → Hp → VK → Prop := fun xs H Q => ∃ i j, xs = [.int i, .int j] ∧ CDivP i j ∧ ∀ p, H p = none → Q (.ref p) (upd H p (.tup [.int (i / j), .int (i % j)]))
theorem call_dmW {X : Cx} : CallR X (.builtin "divmod") rDmW := call_divmodW
theorem go_dmW {i j : Int} {H : Hp} {Q : VK} (h : CDivP i j) (k : ∀ p, H p = none → Q (.ref p) (upd H p (.tup [.int (i / j), .int (i % j)]))) : rDmW [.int i, .int j] H Q := ⟨i, j, rfl, h, k⟩
theorem divP {i j : Int} (hj : 0 < j) (hi : i.natAbs < 2 ^ 3500) : CDivP i j := divp_ok hj (by
  have h1 := PyProof.Rows.intBits_le hi
  omega)
def ffold (r x : Int) : Int := if (x - 1) % r < r / 2 then 2 * ((x - 1) / r) else 2 * ((x - 1) / r) + 1
def lfold (r x : Int) : Int := if x % r < r - r / 2 then 2 * (x / r) else 2 * (x / r) + 1
def lowF (r f : Int) : Int := if f % 2 = 0 then f / 2 * r else f / 2 * r + r - r / 2
def highF (r f : Int) : Int := if f % 2 = 0 then f / 2 * r + r / 2 else f / 2 * r + r
def wayF (f : Int) : Int := if f % 2 = 0 then 1 else -1
def spFold (g : Int → Int → Int) : Sp := fun vs H Q _ => ∃ r x, vs = [.int r, .int x] ∧ 2 ≤ r ∧ Sm x ∧ ∀ H', Ex H H' → Q (.int (g r x)) H'
def spEnds : Sp := fun vs H Q _ => ∃ r f, vs = [.int r, .int f] ∧ 2 ≤ r ∧ Sm r ∧ Sm f ∧ ∀ p H', Ex H H' → H' p = some (.tup [.int (lowF r f), .int (highF r f)]) → Q (.ref p) H'
def spWay : Sp := fun vs H Q _ => ∃ f, vs = [.int f] ∧ ∀ H', Ex H H' → Q (.int (wayF f)) H'
theorem sm_sub1 {x : Int} (h : Sm x) : (x - 1).natAbs < 2 ^ 3500 := by
  have h1 : (x - 1).natAbs ≤ x.natAbs + 1 := by omega
  have h2 : (2 : Nat) ^ 3000 + 1 ≤ 2 ^ 3500 := by decide +kernel
  omega
theorem sm_wide {x : Int} (h : Sm x) : x.natAbs < 2 ^ 3500 := Nat.lt_trans h (by decide +kernel)
theorem sm_half {x : Int} (h : Sm x) : (x / 2).natAbs < 2 ^ 3001 := by
  have h1 : (x / 2).natAbs ≤ x.natAbs + 1 := by omega
  have h2 : (2 : Nat) ^ 3000 + 1 ≤ 2 ^ 3001 := by decide +kernel
  omega
section
variable {P : Program} {w : World} {K : PySem.W.Frag} {mg : Str → Option Value} {base : Heap}
abbrev s_first_fold_to : Stmt := top 25
theorem sc_first_fold_to : FnScope ["rate", "number", "below", "above"] ["rate", "number"] (defScope s_first_fold_to) := ⟨rfl, rfl, rfl, by decide +kernel, rfl, by decide +kernel, by decide +kernel⟩
theorem ok_first_fold {f : Addr} {fd : FuncData} (F : Fun K "first_fold_to" "first_fold_to" s_first_fold_to f fd) (m_divmod : mg "divmod" = none) : FnOk P w K mg base CX0 1 f fd ["rate", "number"] (spFold ffold) := by
  refine F.ok sc_first_fold_to (fun vs H Q E h => ?_) (fun cdv A outer s H vs Q E hr h => ?_)
  · obtain ⟨r, x, rfl, _⟩ := h
    rfl
  · obtain ⟨r, x, rfl, h2, hx, k⟩ := h
    refine ⟨_, (pss_cons (ps_asg (pe_callB call_dmW rfl m_divmod (by decide +kernel) (pa_cons (pe_op op_sub (pv 1) pe_int) (pa_cons (pv 0) pa_nil))) (pg_tup (by rfl) (pgs_cons (pg_name (i := 2) sc_first_fold_to.nd rfl (Or.inl rfl)) (pgs_cons (pg_name (i := 3) sc_first_fold_to.nd rfl (Or.inl rfl)) pgs_nil))))
  (pss_one (ps_ret (pe_ifExp (pt_cmpR op_lt (pv 3) (pe_op op_fdiv (pv 0) pe_int) (nomark _)) (pe_op op_mul pe_int (pv 2)) (pe_op op_add (pe_op op_mul pe_int (pv 2)) pe_int))))), ?_⟩
    walk_at "rd"
    refine go_dmW (divP (by omega) (sm_sub1 hx)) fun p hp => ?_
    walk_at "rd"
    refine go_gtup (.inl (.inl upd_same)) rfl ?_
    walk_at "rd"
    have e := Ex.new (o := HO.tup [V.int ((x - 1) / r), .int ((x - 1) % r)]) hp
    have := k _ e
    unfold ffold at this
    refine ite2 (fun c => ?_) (fun c => ?_)
    · rw [if_pos (of_decide_eq_true c)] at this
      walk_at "rd"
      exact this
    · rw [if_neg (fun z => c (decide_eq_true z))] at this
      walk_at "rd"
      exact this
abbrev s_last_fold_from : Stmt := top 26
theorem sc_last_fold_from : FnScope ["rate", "number", "below", "above"] ["rate", "number"] (defScope s_last_fold_from) := ⟨rfl, rfl, rfl, by decide +kernel, rfl, by decide +kernel, by decide +kernel⟩
theorem ok_last_fold {f : Addr} {fd : FuncData} (F : Fun K "last_fold_from" "last_fold_from" s_last_fold_from f fd) (m_divmod : mg "divmod" = none) : FnOk P w K mg base CX0 1 f fd ["rate", "number"] (spFold lfold) := by
  refine F.ok sc_last_fold_from (fun vs H Q E h => ?_) (fun cdv A outer s H vs Q E hr h => ?_)
  · obtain ⟨r, x, rfl, _⟩ := h
    rfl
  · obtain ⟨r, x, rfl, h2, hx, k⟩ := h
    refine ⟨_, (pss_cons (ps_asg (pe_callB call_dmW rfl m_divmod (by decide +kernel) (pa_cons (pv 1) (pa_cons (pv 0) pa_nil))) (pg_tup (by rfl) (pgs_cons (pg_name (i := 2) sc_last_fold_from.nd rfl (Or.inl rfl)) (pgs_cons (pg_name (i := 3) sc_last_fold_from.nd rfl (Or.inl rfl)) pgs_nil))))
  (pss_one (ps_ret (pe_ifExp (pt_cmpR op_lt (pv 3) (pe_op op_sub (pv 0) (pe_op op_fdiv (pv 0) pe_int)) (nomark _)) (pe_op op_mul pe_int (pv 2)) (pe_op op_add (pe_op op_mul pe_int (pv 2)) pe_int))))), ?_⟩
    walk_at "rd"
    refine go_dmW (divP (by omega) (sm_wide hx)) fun p hp => ?_
    walk_at "rd"
    refine go_gtup (.inl (.inl upd_same)) rfl ?_
    walk_at "rd"
    have e := Ex.new (o := HO.tup [V.int (x / r), .int (x % r)]) hp
    have := k _ e
    unfold lfold at this
    refine ite2 (fun c => ?_) (fun c => ?_)
    · rw [if_pos (of_decide_eq_true c)] at this
      walk_at "rd"
      exact this
    · rw [if_neg (fun z => c (decide_eq_true z))] at this
      walk_at "rd"
      exact this
abbrev s_fold_way : Stmt := top 24
theorem sc_fold_way : FnScope ["fold"] ["fold"] (defScope s_fold_way) := ⟨rfl, rfl, rfl, by decide +kernel, rfl, by decide +kernel, by decide +kernel⟩
theorem ok_fold_way {f : Addr} {fd : FuncData} (F : Fun K "fold_way" "fold_way" s_fold_way f fd) : FnOk P w K mg base CX0 1 f fd ["fold"] spWay := by
  refine F.ok sc_fold_way (fun vs H Q E h => ?_) (fun cdv A outer s H vs Q E hr h => ?_)
  · obtain ⟨r, rfl, _⟩ := h
    rfl
  · obtain ⟨fo, rfl, k⟩ := h
    refine ⟨_, (pss_one (ps_ret (pe_ifExp (pt_cmpR op_eq (pe_op op_mod (pv 0) pe_int) pe_int (nomark _)) pe_int (pe_un un_neg pe_int)))), ?_⟩
    walk_at "rd"
    have := k _ (Ex.refl H)
    unfold wayF at this
    refine ite2 (fun c => ?_) (fun c => ?_)
    · rw [if_pos (by simpa using c)] at this
      walk_at "rd"
      exact this
    · rw [if_neg (fun z => c (by simp [z]))] at this
      walk_at "rd"
      exact this
abbrev s_fold_ends : Stmt := top 23
theorem sc_fold_ends : FnScope ["rate", "fold", "base"] ["rate", "fold"] (defScope s_fold_ends) := ⟨rfl, rfl, rfl, by decide +kernel, rfl, by decide +kernel, by decide +kernel⟩
theorem ok_fold_ends {f : Addr} {fd : FuncData} (F : Fun K "fold_ends" "fold_ends" s_fold_ends f fd) : FnOk P w K mg base CX0 1 f fd ["rate", "fold"] spEnds := by
  refine F.ok sc_fold_ends (fun vs H Q E h => ?_) (fun cdv A outer s H vs Q E hr h => ?_)
  · obtain ⟨r, x, rfl, _⟩ := h
    rfl
  · obtain ⟨r, x, rfl, h2, hr2, hx, k⟩ := h
    refine ⟨_, (pss_cons (ps_set (i := 2) sc_fold_ends.nd rfl (Or.inl rfl) (pe_op op_mulW (pe_op op_fdiv (pv 1) pe_int) (pv 0)))
  (pss_cons (ps_if (pt_cmpR op_eq (pe_op op_mod (pv 1) pe_int) pe_int (nomark _))
  (pss_one (ps_ret (pe_tup (pa_cons (pv 2) (pa_cons (pe_op op_add (pv 2) (pe_op op_fdiv (pv 0) pe_int)) pa_nil)))))
  pss_nil)
  (pss_one (ps_ret (pe_tup (pa_cons (pe_op op_sub (pe_op op_add (pv 2) (pv 0)) (pe_op op_fdiv (pv 0) pe_int)) (pa_cons (pe_op op_add (pv 2) (pv 0)) pa_nil))))))), ?_⟩
    have hm : CMulW (x / 2) r := wide_mul (a := 3001) (b := 3001) (sm_half hx) (Nat.lt_trans hr2 (by decide +kernel)) (by decide) (by decide) (by decide)
    walk_at "rd"
    refine ite2 (fun c => ?_) (fun c => ?_)
    · have c' : x % 2 = 0 := by simpa using c
      walk_at "rd"
      intro p hp
      refine k p _ (Ex.new hp) ?_
      unfold lowF highF
      rw [if_pos c', if_pos c']
      exact upd_same
    · have c' : ¬ x % 2 = 0 := fun z => c (by simp [z])
      walk_at "rd"
      intro p hp
      refine k p _ (Ex.new hp) ?_
      unfold lowF highF
      rw [if_neg c', if_neg c']
      exact upd_same
end
end Kx

set_option Elab.async false
set_option linter.all false
set_option maxRecDepth 100000
set_option maxHeartbeats 2000000

namespace Kx
open PySem PySem.Spec PyProof.Rows L2 HX
open Evl (Ex)
local macro_rules | `(tactic| walk_at "side") => `(tactic| first | assumption | ((try dsimp only); first | assumption | decide +kernel | omega | exact ⟨by decide, by decide⟩ | (left; decide) | (left; omega) | (refine Or.inl ⟨?_, ?_⟩ <;> omega) | (refine Or.inr ⟨?_, ?_⟩ <;> omega)))
local macro_rules | `(tactic| walk_at "heap") => `(tactic| first | assumption | exact upd_same | exact Or.inl (by assumption) | exact Or.inl upd_same)
local macro_rules | `(tactic| walk_at "item") => `(tactic| first | exact rfl | exact atI_nat (j := 0) rfl | exact atI_nat (j := 1) rfl | exact atI_nat (j := 2) rfl | assumption)
local macro_rules | `(tactic| walk_at "rd") => `(tactic| repeat (first
  | ((with_reducible refine' go_var ?hv ?_); (case hv => exact rfl))
  | with_reducible refine' go_c ?_
  | with_reducible refine' go_op ?_
  | with_reducible refine' go_seq ?_
  | with_reducible refine' go_asg ?_
  | with_reducible refine' go_name ?_
  | with_reducible refine' go_cons ?_
  | with_reducible refine' go_nil ?_
  | with_reducible refine' go_cb ?_
  | with_reducible refine' go_call ?_
  | with_reducible refine' go_ifS ?_
  | with_reducible refine' go_test ?_
  | with_reducible refine' go_bl ?_
  | with_reducible refine' go_ret ?_
  | with_reducible refine' go_I0 ?_
  | ((with_reducible refine' go_I ?cc ?_); (case cc => walk_at "side"))
  | ((with_reducible refine' go_ixL ?hh ?hk ?_); (case hh => walk_at "heap"); (case hk => walk_at "item"))
  | ((with_reducible refine' go_ixT ?hh ?hk ?_); (case hh => walk_at "heap"); (case hk => walk_at "item"))
  | ((with_reducible refine' go_lenL ?hh ?_); (case hh => walk_at "heap"))
  | ((with_reducible refine' go_lenT ?hh ?_); (case hh => walk_at "heap"))
  | ((with_reducible refine' go_setL ?hh ?hk ?_); (case hh => walk_at "heap"); (case hk => walk_at "item"))
  | with_reducible refine' go_abs ?_
  | with_reducible refine' go_max ?_
  | with_reducible refine' go_min ?_
  | with_reducible refine' go_int ?_
  | with_reducible refine' go_intB ?_
  | (with_reducible refine' go_eq rfl ?_)
  | (with_reducible refine' go_ne rfl ?_)
  | with_reducible refine' go_isN ?_
  | with_reducible refine' go_notN ?_
  | with_reducible refine' go_if ?_
  | with_reducible refine' go_sub ?_
  | with_reducible refine' go_par ?_
  | with_reducible refine' go_sl ?_
  | with_reducible refine' go_part ?_
  | with_reducible refine' go_pint ?_
  | with_reducible refine' go_nopart ?_
  | ((with_reducible refine' go_lenL ?hh ?_); (case hh => walk_at "heap"))
  | ((with_reducible refine' go_lenT ?hh ?_); (case hh => walk_at "heap"))
  | ((with_reducible refine' go_lenS ?hh ?_); (case hh => assumption))
  | with_reducible refine' go_gcons ?_
  | with_reducible refine' go_gnil ?_
  | with_reducible refine' go_kw ?_
  | with_reducible refine' go_par2 ?_
  | with_reducible refine' go_next ?_
  | with_reducible refine' go_drop ?_
  | with_reducible refine' go_and ?_
  | with_reducible refine' go_or ?_
  | with_reducible refine' go_not ?_
  | with_reducible refine' go_B ?_
  | with_reducible refine' go_andV ?_
  | with_reducible refine' go_orV ?_
  | with_reducible refine' go_notV ?_
  | with_reducible refine' go_chain ?_
  | with_reducible refine' go_un ?_
  | with_reducible refine' go_U ?_
  | with_reducible refine' go_bm ?_
  | with_reducible refine' go_tup ?_
  | with_reducible refine' go_lst ?_
  | with_reducible refine' go_forR1 ?_
  | with_reducible refine' go_forR2 ?_
  | with_reducible refine' go_forL ?_
  | with_reducible refine' go_forT ?_
  | with_reducible refine' go_forE ?_
  | with_reducible refine' go_lcR1 ?_
  | with_reducible refine' go_lcL ?_
  | with_reducible refine' go_lcT ?_
  | ((with_reducible refine' go_tyL ?hh ?_); (case hh => walk_at "heap"))
  | ((with_reducible refine' go_new ?hz ?_); (case hz => exact Nat.le_of_ble_eq_true rfl))
  | (with_reducible refine' ⟨_, rfl, ?_⟩)
  ))
--MACEND
/-! ### stretches -/
/-- a stretch: its least and its greatest signal, the number of the least one, the way -/
structure Sx where
  lo : Int
  hi : Option Int
  num : Int
  way : Int
@[reducible] def Sx.v (s : Sx) : List V := [.int s.lo, optV s.hi, .int s.num, .int s.way]
/-- v is a tuple of H with this stretch -/
def Tx (H : Hp) (v : V) (s : Sx) : Prop := ∃ a, v = .ref a ∧ H a = some (.tup s.v)
theorem Tx.ex {H H' : Hp} {v : V} {s : Sx} (e : Ex H H') : Tx H v s → Tx H' v s := fun ⟨a, h1, h2⟩ => ⟨a, h1, e _ _ h2⟩
def Wy (s : Sx) : Prop := s.way = 1 ∨ s.way = -1
def sigOf (s : Sx) (n : Int) : Int := s.lo + s.way * (n - s.num)
def topOf (g h : Option Int) : Option Int := match g, h with
  | none, h => h
  | some g, none => some g
  | some g, some h => if h < g then some h else some g
@[reducible] def mnI (a b : Int) : Int := if b < a then b else a
@[reducible] def mxI (a b : Int) : Int := if b > a then b else a
def cutS (s : Sx) (low : Int) (high : Option Int) : Option Sx :=
  match topOf s.hi high with
  | some l => if l < mxI s.lo low then none else some ⟨mxI s.lo low, some l, s.num + s.way * (mxI s.lo low - s.lo), s.way⟩
  | none => some ⟨mxI s.lo low, none, s.num + s.way * (mxI s.lo low - s.lo), s.way⟩
def cutN (s : Sx) (low high : Int) : Option Sx := cutS s (mnI (sigOf s low) (sigOf s high)) (some (mxI (sigOf s low) (sigOf s high)))
def spSig : Sp := fun vs H Q _ => ∃ v s n, vs = [v, .int n] ∧ Tx H v s ∧ Wy s ∧ ∀ H', Ex H H' → Q (.int (sigOf s n)) H'
/-- what a cut hands back: None, or a new tuple -/
def Back (o : Option Sx) (H : Hp) (Q : VK) : Prop := match o with
  | none => ∀ H', Ex H H' → Q .non H'
  | some s => ∀ p H', Ex H H' → H' p = some (.tup s.v) → Q (.ref p) H'
def spCutS : Sp := fun vs H Q _ => ∃ v s low high, vs = [v, .int low, optV high] ∧ Tx H v s ∧ Wy s ∧ Back (cutS s low high) H Q
def spCutN : Sp := fun vs H Q _ => ∃ v s low high, vs = [v, .int low, .int high] ∧ Tx H v s ∧ Wy s ∧ Back (cutN s low high) H Q
theorem back_ex {o : Option Sx} {H H1 : Hp} {Q : VK} (e : Ex H H1) (b : Back o H Q) : Back o H1 Q := by
  cases o with
  | none => exact fun H' e' => b H' (e.trans e')
  | some s => exact fun p H' e' h => b p H' (e.trans e') h
theorem wy_mul {s : Sx} (h : Wy s) (x : Int) : CMul s.way x := by
  rcases h with h | h <;> (rw [h]; exact .inl ⟨by decide, by decide⟩)
section
variable {P : Program} {w : World} {K : PySem.W.Frag} {mg : Str → Option Value} {base : Heap}
abbrev s_signal_of : Stmt := top 29
theorem sc_signal_of : FnScope ["stretch", "number", "least", "_", "start", "way"] ["stretch", "number"] (defScope s_signal_of) := ⟨rfl, rfl, rfl, by decide +kernel, rfl, by decide +kernel, by decide +kernel⟩
theorem ok_signal_of {f : Addr} {fd : FuncData} (F : Fun K "signal_of" "signal_of" s_signal_of f fd) : FnOk P w K mg base CX0 1 f fd ["stretch", "number"] spSig := by
  refine F.ok sc_signal_of (fun vs H Q E h => ?_) (fun cdv A outer s H vs Q E hr h => ?_)
  · obtain ⟨v, s, n, rfl, _⟩ := h
    rfl
  · obtain ⟨v, s, n, rfl, ⟨a, rfl, ha⟩, hw, k⟩ := h
    refine ⟨_, (pss_cons (ps_asg (pv 0) (pg_tup (by rfl) (pgs_cons (pg_name (i := 2) sc_signal_of.nd rfl (Or.inl rfl)) (pgs_cons (pg_name (i := 3) sc_signal_of.nd rfl (Or.inl rfl)) (pgs_cons (pg_name (i := 4) sc_signal_of.nd rfl (Or.inl rfl)) (pgs_cons (pg_name (i := 5) sc_signal_of.nd rfl (Or.inl rfl)) pgs_nil))))))
  (pss_one (ps_ret (pe_op op_add (pv 2) (pe_op op_mul (pv 5) (pe_op op_sub (pv 1) (pv 4))))))), ?_⟩
    walk_at "rd"
    refine go_gtup (.inl (.inl ha)) rfl ?_
    have hm := wy_mul hw (n - s.num)
    walk_at "rd"
    exact k _ (Ex.refl _)
abbrev s_cut_to_signals : Stmt := top 30
theorem sc_cut_to_signals : FnScope ["stretch", "low", "high", "least", "greatest", "number", "way", "first", "last"] ["stretch", "low", "high"] (defScope s_cut_to_signals) := ⟨rfl, rfl, rfl, by decide +kernel, rfl, by decide +kernel, by decide +kernel⟩
theorem ok_cutS {f : Addr} {fd : FuncData} (F : Fun K "cut_to_signals" "cut_to_signals" s_cut_to_signals f fd) (m_max : mg "max" = none) : FnOk P w K mg base CX0 1 f fd ["stretch", "low", "high"] spCutS := by
  refine F.ok sc_cut_to_signals (fun vs H Q E h => ?_) (fun cdv A outer s H vs Q E hr h => ?_)
  · obtain ⟨v, s, l, h', rfl, _⟩ := h
    rfl
  · obtain ⟨v, s, low, high, rfl, ⟨a, rfl, ha⟩, hw, k⟩ := h
    refine ⟨_, (pss_cons (ps_asg (pv 0) (pg_tup (by rfl) (pgs_cons (pg_name (i := 3) sc_cut_to_signals.nd rfl (Or.inl rfl)) (pgs_cons (pg_name (i := 4) sc_cut_to_signals.nd rfl (Or.inl rfl)) (pgs_cons (pg_name (i := 5) sc_cut_to_signals.nd rfl (Or.inl rfl)) (pgs_cons (pg_name (i := 6) sc_cut_to_signals.nd rfl (Or.inl rfl)) pgs_nil))))))
  (pss_cons (ps_set (i := 7) sc_cut_to_signals.nd rfl (Or.inl rfl) (pe_callB (call_maxQ rfl) rfl m_max boot_max (pa_cons (pv 3) (pa_cons (pv 1) pa_nil))))
  (pss_cons (ps_set (i := 8) sc_cut_to_signals.nd rfl (Or.inl rfl) (pv 4))
  (pss_cons (ps_if (PW.pt (pw_or (pt_cmpR op_isN1 (pv 4) pe_non (nomark _)) (pw_or1 (PW.pt (pw_and (pt_cmpR op_notN1 (pv 2) pe_non (nomark _)) (pw_and1 (pt_cmpR op_lt (pv 2) (pv 4) (nomark _))))))))
  (pss_one (ps_set (i := 8) sc_cut_to_signals.nd rfl (Or.inl rfl) (pv 2)))
  pss_nil)
  (pss_cons (ps_if (PW.pt (pw_and (pt_cmpR op_notN1 (pv 8) pe_non (nomark _)) (pw_and1 (pt_cmpR op_gt (pv 7) (pv 8) (nomark _)))))
  (pss_one (ps_ret pe_non))
  pss_nil)
  (pss_one (ps_ret (pe_tup (pa_cons (pv 7) (pa_cons (pv 8) (pa_cons (pe_op op_add (pv 5) (pe_op op_mul (pv 6) (pe_op op_sub (pv 7) (pv 3)))) (pa_cons (pv 6) pa_nil)))))))))))), ?_⟩
    walk_at "rd"
    refine go_gtup (.inl (.inl ha)) rfl ?_
    walk_at "rd"
    have hm := wy_mul hw (mxI s.lo low - s.lo)
    unfold cutS at k
    cases hs : s.hi with
    | none =>
      rw [hs] at k
      cases high with
      | none =>
        simp only [optV, topOf] at k ⊢
        walk_at "rd"
        refine ite2 (fun _ => ?_) (fun c => absurd (by simp) c)
        rw [if_pos trivial]
        walk_at "rd"
        refine ite2 (fun c => absurd c (by simp)) (fun _ => ?_)
        refine iteF ?_
        walk_at "rd"
        intro p hp
        exact k p _ (Ex.new hp) upd_same
      | some h =>
        simp only [optV, topOf] at k ⊢
        walk_at "rd"
        refine ite2 (fun _ => ?_) (fun c => absurd (by simp) c)
        rw [if_pos trivial]
        walk_at "rd"
        refine ite2 (fun _ => ?_) (fun c => absurd c (by simp))
        walk_at "rd"
        refine ite2 (fun c => ?_) (fun c => ?_)
        · rw [if_pos (of_decide_eq_true c)] at k
          walk_at "rd"
          exact k _ (Ex.refl _)
        · rw [if_neg (fun z => c (decide_eq_true z))] at k
          walk_at "rd"
          intro p hp
          exact k p _ (Ex.new hp) upd_same
    | some g =>
      rw [hs] at k
      cases high with
      | none =>
        simp only [optV, topOf] at k ⊢
        walk_at "rd"
        refine ite2 (fun c => absurd (of_decide_eq_true c) (by simp)) (fun _ => ?_)
        walk_at "rd"
        refine ite2 (fun c => absurd c (by simp)) (fun _ => iteF ?_)
        walk_at "rd"
        refine ite2 (fun _ => ?_) (fun c => absurd c (by simp))
        walk_at "rd"
        refine ite2 (fun c => ?_) (fun c => ?_)
        · rw [if_pos (of_decide_eq_true c)] at k
          walk_at "rd"
          exact k _ (Ex.refl _)
        · rw [if_neg (fun z => c (decide_eq_true z))] at k
          walk_at "rd"
          intro p hp
          exact k p _ (Ex.new hp) upd_same
      | some h =>
        simp only [optV, topOf] at k ⊢
        walk_at "rd"
        refine ite2 (fun c => absurd (of_decide_eq_true c) (by simp)) (fun _ => ?_)
        walk_at "rd"
        refine ite2 (fun _ => ?_) (fun c => absurd c (by simp))
        walk_at "rd"
        refine ite2 (fun c => ?_) (fun c => ?_)
        · rw [if_pos (of_decide_eq_true c)] at k
          walk_at "rd"
          dsimp only at k
          refine ite2 (fun _ => ?_) (fun c => absurd c (by simp))
          walk_at "rd"
          refine ite2 (fun c => ?_) (fun c => ?_)
          · rw [if_pos (of_decide_eq_true c)] at k
            walk_at "rd"
            exact k _ (Ex.refl _)
          · rw [if_neg (fun z => c (decide_eq_true z))] at k
            walk_at "rd"
            intro p hp
            exact k p _ (Ex.new hp) upd_same
        · rw [if_neg (fun z => c (decide_eq_true z))] at k
          walk_at "rd"
          dsimp only at k
          refine ite2 (fun _ => ?_) (fun c => absurd c (by simp))
          walk_at "rd"
          refine ite2 (fun c => ?_) (fun c => ?_)
          · rw [if_pos (of_decide_eq_true c)] at k
            walk_at "rd"
            exact k _ (Ex.refl _)
          · rw [if_neg (fun z => c (decide_eq_true z))] at k
            walk_at "rd"
            intro p hp
            exact k p _ (Ex.new hp) upd_same
abbrev s_cut_to_numbers : Stmt := top 31
theorem sc_cut_to_numbers : FnScope ["stretch", "low", "high", "one", "other"] ["stretch", "low", "high"] (defScope s_cut_to_numbers) := ⟨rfl, rfl, rfl, by decide +kernel, rfl, by decide +kernel, by decide +kernel⟩
theorem ok_cutN {f : Addr} {fd : FuncData} (F : Fun K "cut_to_numbers" "cut_to_numbers" s_cut_to_numbers f fd) (m_max : mg "max" = none) (m_min : mg "min" = none) (h_signal_of : Has P w K mg base 1 "signal_of" spSig)
    (h_cut_to_signals : Has P w K mg base 1 "cut_to_signals" spCutS) : FnOk P w K mg base CX0 2 f fd ["stretch", "low", "high"] spCutN := by
  refine F.ok sc_cut_to_numbers (fun vs H Q E h => ?_) (fun cdv A outer s H vs Q E hr h => ?_)
  · obtain ⟨v, s, l, h', rfl, _⟩ := h
    rfl
  · obtain ⟨v, s, low, high, rfl, hT, hw, k⟩ := h
    refine ⟨_, (pss_cons (ps_set (i := 3) sc_cut_to_numbers.nd rfl (Or.inl rfl) (pe_hs h_signal_of hr rfl (pa_cons (pv 0) (pa_cons (pv 1) pa_nil))))
  (pss_cons (ps_set (i := 4) sc_cut_to_numbers.nd rfl (Or.inl rfl) (pe_hs h_signal_of hr rfl (pa_cons (pv 0) (pa_cons (pv 2) pa_nil))))
  (pss_one (ps_ret (pe_hs h_cut_to_signals hr rfl (pa_cons (pv 0) (pa_cons (pe_callB (call_minQ rfl) rfl m_min boot_min (pa_cons (pv 3) (pa_cons (pv 4) pa_nil))) (pa_cons (pe_callB (call_maxQ rfl) rfl m_max boot_max (pa_cons (pv 3) (pa_cons (pv 4) pa_nil))) pa_nil)))))))), ?_⟩
    walk_at "rd"
    refine ⟨v, s, low, rfl, hT, hw, fun H1 e1 => ?_⟩
    walk_at "rd"
    refine ⟨v, s, high, rfl, hT.ex e1, hw, fun H2 e2 => ?_⟩
    walk_at "rd"
    refine ⟨v, s, _, some _, rfl, hT.ex (e1.trans e2), hw, ?_⟩
    unfold cutN at k
    exact back_ex (e1.trans e2) k
end
end Kx

set_option Elab.async false
set_option linter.all false
set_option maxRecDepth 100000
set_option maxHeartbeats 2000000

namespace Kx
open PySem PySem.Spec PyProof.Rows L2 HX
open Evl (Ex)
local macro_rules | `(tactic| walk_at "side") => `(tactic| first | assumption | ((try dsimp only); first | assumption | decide +kernel | omega | exact ⟨by decide, by decide⟩ | (left; decide) | (left; omega) | (refine Or.inl ⟨?_, ?_⟩ <;> omega) | (refine Or.inr ⟨?_, ?_⟩ <;> omega)))
local macro_rules | `(tactic| walk_at "heap") => `(tactic| first | assumption | exact upd_same | exact Or.inl (by assumption) | exact Or.inl upd_same)
local macro_rules | `(tactic| walk_at "item") => `(tactic| first | exact rfl | exact atI_nat (j := 0) rfl | exact atI_nat (j := 1) rfl | exact atI_nat (j := 2) rfl | assumption)
local macro_rules | `(tactic| walk_at "rd") => `(tactic| repeat (first
  | ((with_reducible refine' go_var ?hv ?_); (case hv => exact rfl))
  | with_reducible refine' go_c ?_
  | with_reducible refine' go_op ?_
  | with_reducible refine' go_seq ?_
  | with_reducible refine' go_asg ?_
  | with_reducible refine' go_name ?_
  | with_reducible refine' go_cons ?_
  | with_reducible refine' go_nil ?_
  | with_reducible refine' go_cb ?_
  | with_reducible refine' go_call ?_
  | with_reducible refine' go_ifS ?_
  | with_reducible refine' go_test ?_
  | with_reducible refine' go_bl ?_
  | with_reducible refine' go_ret ?_
  | with_reducible refine' go_I0 ?_
  | ((with_reducible refine' go_I ?cc ?_); (case cc => walk_at "side"))
  | ((with_reducible refine' go_ixL ?hh ?hk ?_); (case hh => walk_at "heap"); (case hk => walk_at "item"))
  | ((with_reducible refine' go_ixT ?hh ?hk ?_); (case hh => walk_at "heap"); (case hk => walk_at "item"))
  | ((with_reducible refine' go_lenL ?hh ?_); (case hh => walk_at "heap"))
  | ((with_reducible refine' go_lenT ?hh ?_); (case hh => walk_at "heap"))
  | ((with_reducible refine' go_setL ?hh ?hk ?_); (case hh => walk_at "heap"); (case hk => walk_at "item"))
  | with_reducible refine' go_abs ?_
  | with_reducible refine' go_max ?_
  | with_reducible refine' go_min ?_
  | with_reducible refine' go_int ?_
  | with_reducible refine' go_intB ?_
  | (with_reducible refine' go_eq rfl ?_)
  | (with_reducible refine' go_ne rfl ?_)
  | with_reducible refine' go_isN ?_
  | with_reducible refine' go_notN ?_
  | with_reducible refine' go_if ?_
  | with_reducible refine' go_sub ?_
  | with_reducible refine' go_par ?_
  | with_reducible refine' go_sl ?_
  | with_reducible refine' go_part ?_
  | with_reducible refine' go_pint ?_
  | with_reducible refine' go_nopart ?_
  | ((with_reducible refine' go_lenL ?hh ?_); (case hh => walk_at "heap"))
  | ((with_reducible refine' go_lenT ?hh ?_); (case hh => walk_at "heap"))
  | ((with_reducible refine' go_lenS ?hh ?_); (case hh => assumption))
  | with_reducible refine' go_gcons ?_
  | with_reducible refine' go_gnil ?_
  | with_reducible refine' go_kw ?_
  | with_reducible refine' go_par2 ?_
  | with_reducible refine' go_next ?_
  | with_reducible refine' go_drop ?_
  | with_reducible refine' go_and ?_
  | with_reducible refine' go_or ?_
  | with_reducible refine' go_not ?_
  | with_reducible refine' go_B ?_
  | with_reducible refine' go_andV ?_
  | with_reducible refine' go_orV ?_
  | with_reducible refine' go_notV ?_
  | with_reducible refine' go_chain ?_
  | with_reducible refine' go_un ?_
  | with_reducible refine' go_U ?_
  | with_reducible refine' go_bm ?_
  | with_reducible refine' go_tup ?_
  | with_reducible refine' go_lst ?_
  | with_reducible refine' go_forR1 ?_
  | with_reducible refine' go_forR2 ?_
  | with_reducible refine' go_forL ?_
  | with_reducible refine' go_forT ?_
  | with_reducible refine' go_forE ?_
  | with_reducible refine' go_lcR1 ?_
  | with_reducible refine' go_lcL ?_
  | with_reducible refine' go_lcT ?_
  | ((with_reducible refine' go_tyL ?hh ?_); (case hh => walk_at "heap"))
  | ((with_reducible refine' go_new ?hz ?_); (case hz => exact Nat.le_of_ble_eq_true rfl))
  | (with_reducible refine' ⟨_, rfl, ?_⟩)
  ))
--MACEND
/-- a list's values are these stretches -/
structure Txs (H : Hp) (xs : List V) (ss : List Sx) : Prop where
  len : xs.length = ss.length
  get : ∀ (i : Nat) (v : V), xs[i]? = some v → ∃ s, ss[i]? = some s ∧ Tx H v s
theorem Txs.ex {H H' : Hp} {xs : List V} {ss : List Sx} (e : Ex H H') (t : Txs H xs ss) : Txs H' xs ss := ⟨t.len, fun i v h => let ⟨s, h1, h2⟩ := t.get i v h; ⟨s, h1, h2.ex e⟩⟩
theorem Tx.mut {H : Hp} {v : V} {s : Sx} {l : Addr} {ys : List V} {o : HO} (hl : H l = some (.lst ys)) : Tx H v s → Tx (upd H l o) v s := fun ⟨a, h1, h2⟩ =>
  ⟨a, h1, by rw [upd_ne fun z => by rw [z, hl] at h2; cases h2]; exact h2⟩
theorem Txs.mut {H : Hp} {xs : List V} {ss : List Sx} {l : Addr} {ys : List V} {o : HO} (hl : H l = some (.lst ys)) (t : Txs H xs ss) : Txs (upd H l o) xs ss := ⟨t.len, fun i v h => let ⟨s, h1, h2⟩ := t.get i v h; ⟨s, h1, h2.mut hl⟩⟩
theorem Txs.nil {H : Hp} : Txs H [] [] := ⟨rfl, fun i v h => by simp at h⟩
theorem Txs.snoc {H : Hp} {xs : List V} {ss : List Sx} {v : V} {s : Sx} (t : Txs H xs ss) (h : Tx H v s) : Txs H (xs ++ [v]) (ss ++ [s]) := by
  refine ⟨by simp [t.len], fun i u hu => ?_⟩
  by_cases hi : i < xs.length
  · rw [List.getElem?_append_left hi] at hu
    obtain ⟨s', h1, h2⟩ := t.get i u hu
    exact ⟨s', by rw [List.getElem?_append_left (by rw [← t.len]; exact hi)]; exact h1, h2⟩
  · rw [List.getElem?_append_right (by omega)] at hu
    have hz : i - xs.length = 0 := by
      cases q : i - xs.length with
      | zero => rfl
      | succ n => rw [q] at hu; simp at hu
    rw [hz] at hu
    cases hu
    exact ⟨s, by rw [List.getElem?_append_right (by rw [← t.len]; omega), ← t.len, hz]; rfl, h⟩
@[reducible] def absI (i : Int) : Int := if i < 0 then -i else i
def mixS (c : Int) (s : Sx) : List Sx :=
  if sigOf s c ≤ s.lo then [⟨s.lo, s.hi, absI (s.num - c), 1⟩]
  else match s.hi with
    | some g => if sigOf s c ≥ g then [⟨s.lo, some g, absI (s.num - c), -1⟩] else [⟨s.lo, some (sigOf s c), absI (s.num - c), -1⟩, ⟨sigOf s c, some g, 0, 1⟩]
    | none => [⟨s.lo, some (sigOf s c), absI (s.num - c), -1⟩, ⟨sigOf s c, none, 0, 1⟩]
theorem mixS_len (c : Int) (s : Sx) : (mixS c s).length ≤ 2 := by
  unfold mixS
  split
  · simp
  · split
    · split <;> simp
    · simp
def behindMixer (c : Int) (ss : List Sx) : List Sx := ss.flatMap (mixS c)
theorem mixer_len (c : Int) : ∀ ss : List Sx, (behindMixer c ss).length ≤ 2 * ss.length
  | [] => by simp [behindMixer]
  | s :: ss => by
    have h1 := mixer_len c ss
    have h2 := mixS_len c s
    simp only [behindMixer, List.flatMap_cons, List.length_append, List.length_cons] at h1 ⊢
    omega
theorem mixer_take (c : Int) {ss : List Sx} {i : Nat} {s : Sx} (h : ss[i]? = some s) : behindMixer c (ss.take (i + 1)) = behindMixer c (ss.take i) ++ mixS c s := by
  rw [List.take_succ, h]
  simp [behindMixer]
/-- a list of stretches at p -/
def Lx (H : Hp) (p : Addr) (ss : List Sx) : Prop := ∃ xs, H p = some (.lst xs) ∧ Txs H xs ss
def spMixL : Sp := fun vs H Q _ => ∃ p c ss, vs = [.ref p, .int c] ∧ Lx H p ss ∧ (∀ s ∈ ss, Wy s) ∧ ss.length ≤ 100000 ∧ ∀ q H', Ex H H' → Lx H' q (behindMixer c ss) → Q (.ref q) H'
section
variable {P : Program} {w : World} {K : PySem.W.Frag} {mg : Str → Option Value} {base : Heap}
abbrev s__behind_mixer : Stmt := top 33
theorem sc__behind_mixer : FnScope ["stretches", "center", "mixed", "stretch", "least", "greatest", "number", "_", "turn", "distance"] ["stretches", "center"] (defScope s__behind_mixer) := ⟨rfl, rfl, rfl, by decide +kernel, rfl, by decide +kernel, by decide +kernel⟩
theorem ok_mixer {f : Addr} {fd : FuncData} (F : Fun K "_behind_mixer" "_behind_mixer" s__behind_mixer f fd) (m_abs : mg "abs" = none) (h_signal_of : Has P w K mg base 1 "signal_of" spSig) : FnOk P w K mg base CX0 2 f fd ["stretches", "center"] spMixL := by
  refine F.ok sc__behind_mixer (fun vs H Q E h => ?_) (fun cdv A outer s H vs Q E hr h => ?_)
  · obtain ⟨p, c, ss, rfl, _⟩ := h
    rfl
  · obtain ⟨p, c, ss, rfl, ⟨xs, hp, hT⟩, hw, hn, k⟩ := h
    refine ⟨_, (pss_cons (ps_set (i := 2) sc__behind_mixer.nd rfl (Or.inl rfl) (pe_lst pa_nil))
  (pss_cons (ps_for PassesOwn.never rfl (pi_list (pv 0)) (pg_name (i := 3) sc__behind_mixer.nd rfl (Or.inl rfl))
  (pss_cons (ps_asg (pv 3) (pg_tup (by rfl) (pgs_cons (pg_name (i := 4) sc__behind_mixer.nd rfl (Or.inl rfl)) (pgs_cons (pg_name (i := 5) sc__behind_mixer.nd rfl (Or.inl rfl)) (pgs_cons (pg_name (i := 6) sc__behind_mixer.nd rfl (Or.inl rfl)) (pgs_cons (pg_name (i := 7) sc__behind_mixer.nd rfl (Or.inl rfl)) pgs_nil))))))
  (pss_cons (ps_set (i := 8) sc__behind_mixer.nd rfl (Or.inl rfl) (pe_hs h_signal_of hr rfl (pa_cons (pv 3) (pa_cons (pv 1) pa_nil))))
  (pss_cons (ps_set (i := 9) sc__behind_mixer.nd rfl (Or.inl rfl) (pe_callB call_absQ rfl m_abs (by decide +kernel) (pa_cons (pe_op op_sub (pv 6) (pv 1)) pa_nil)))
  (pss_one (ps_if (pt_cmpR op_le (pv 8) (pv 4) (nomark _))
  (pss_one (ps_expr (pe_bm PySem.F.plainAttrs_list PySem.F.slot_list_append PySem.F.type_list_append mt_append (pv 2) (pa_cons (pe_tup (pa_cons (pv 4) (pa_cons (pv 5) (pa_cons (pv 9) (pa_cons pe_int pa_nil))))) pa_nil))))
  (pss_one (ps_if (PW.pt (pw_and (pt_cmpR op_notN1 (pv 5) pe_non (nomark _)) (pw_and1 (pt_cmpR op_ge (pv 8) (pv 5) (nomark _)))))
  (pss_one (ps_expr (pe_bm PySem.F.plainAttrs_list PySem.F.slot_list_append PySem.F.type_list_append mt_append (pv 2) (pa_cons (pe_tup (pa_cons (pv 4) (pa_cons (pv 5) (pa_cons (pv 9) (pa_cons (pe_un un_neg pe_int) pa_nil))))) pa_nil))))
  (pss_cons (ps_expr (pe_bm PySem.F.plainAttrs_list PySem.F.slot_list_append PySem.F.type_list_append mt_append (pv 2) (pa_cons (pe_tup (pa_cons (pv 4) (pa_cons (pv 8) (pa_cons (pv 9) (pa_cons (pe_un un_neg pe_int) pa_nil))))) pa_nil)))
  (pss_one (ps_expr (pe_bm PySem.F.plainAttrs_list PySem.F.slot_list_append PySem.F.type_list_append mt_append (pv 2) (pa_cons (pe_tup (pa_cons (pv 8) (pa_cons (pv 5) (pa_cons pe_int (pa_cons pe_int pa_nil))))) pa_nil)))))))))))))
  (pss_one (ps_ret (pv 2))))), ?_⟩
    walk_at "rd"
    intro l hl
    have e0 := Ex.new (o := HO.lst []) hl
    walk_at "rd"
    refine ⟨⟨xs, .inl (.inl (e0 _ _ hp))⟩, ?_⟩
    refine run_forL xs (fun i σ G => ∃ (ys : List V) (v3 v4 v5 v6 v7 v8 v9 : Option V), σ = [some (.ref p), some (.int c), some (.ref l), v3, v4, v5, v6, v7, v8, v9] ∧ Ex H G ∧ G l = some (.lst ys) ∧ Txs G ys (behindMixer c (ss.take i))) ?_ ?_ ?_ ?_
    · exact ⟨[], _, _, _, _, _, _, _, rfl, e0, upd_same, Txs.nil⟩
    · rintro i σ G _ ⟨_, _, _, _, _, _, _, _, rfl, e, _⟩
      exact .inl (.inl (e _ _ hp))
    · rintro i v σ G hi ⟨ys, v3, v4, v5, v6, v7, v8, v9, rfl, e, hG, hY⟩
      obtain ⟨sx, hs, hv⟩ := hT.get i v hi
      have hws := hw sx (List.mem_of_getElem? hs)
      have hlen : ys.length ≤ 200000 := by
        rw [hY.len]
        have h1 := mixer_len c (ss.take i)
        rw [List.length_take] at h1
        omega
      obtain ⟨a, rfl, ha⟩ := hv
      have ha' := e _ _ ha
      walk_at "rd"
      refine go_gtup (.inl (.inl ha')) rfl ?_
      walk_at "rd"
      refine ⟨.ref a, sx, c, rfl, ⟨a, rfl, ha'⟩, hws, fun G1 e1 => ?_⟩
      have hG1 := e1 _ _ hG
      have hY1 := hY.ex e1
      walk_at "rd"
      have E1 := e.trans e1
      have big : ∀ n : Nat, n ≤ 200001 → n < sizeLine := fun n h => Nat.lt_of_le_of_lt h (by rw [sizeLine_eq]; decide)
      rw [mixer_take c hs]
      refine ite2 (fun d => ?_) (fun d => ?_)
      · have hm : mixS c sx = [⟨sx.lo, sx.hi, absI (sx.num - c), 1⟩] := by
          unfold mixS
          rw [if_pos (of_decide_eq_true d)]
        rw [hm]
        walk_at "rd"
        intro p1 hp1
        have x1 := Ex.new (o := HO.tup [.int sx.lo, optV sx.hi, .int (absI (sx.num - c)), .int 1]) hp1
        walk_at "rd"
        refine go_app (x1 _ _ hG1) (big _ (by omega)) ?_
        exact ⟨_, _, _, _, _, _, _, _, rfl, Ex.mut (E1.trans x1) hl, upd_same, (((hY1.ex x1).snoc ⟨p1, rfl, upd_same⟩).mut (x1 _ _ hG1))⟩
      · have d' : ¬ sigOf sx c ≤ sx.lo := fun z => d (decide_eq_true z)
        walk_at "rd"
        cases hh : sx.hi with
        | none =>
          have hm : mixS c sx = [⟨sx.lo, some (sigOf sx c), absI (sx.num - c), -1⟩, ⟨sigOf sx c, none, 0, 1⟩] := by
            unfold mixS
            rw [if_neg d', hh]
          rw [hm]
          refine ite2 (fun q => absurd q (by simp [optV])) (fun _ => ?_)
          refine iteF ?_
          walk_at "rd"
          intro p1 hp1
          have x1 := Ex.new (o := HO.tup [.int sx.lo, .int (sigOf sx c), .int (absI (sx.num - c)), .int (-1)]) hp1
          walk_at "rd"
          refine go_app (x1 _ _ hG1) (big _ (by omega)) ?_
          have t1 := ((hY1.ex x1).snoc (s := ⟨sx.lo, some (sigOf sx c), absI (sx.num - c), -1⟩) ⟨p1, rfl, upd_same⟩).mut (o := .lst (ys ++ [.ref p1])) (x1 _ _ hG1)
          have E2 := Ex.mut (E1.trans x1) hl (o := .lst (ys ++ [.ref p1]))
          have hl2 := upd_same (H := upd G1 p1 (HO.tup [.int sx.lo, .int (sigOf sx c), .int (absI (sx.num - c)), .int (-1)])) (a := l) (o := HO.lst (ys ++ [.ref p1]))
          generalize upd (upd G1 p1 (HO.tup [.int sx.lo, .int (sigOf sx c), .int (absI (sx.num - c)), .int (-1)])) l (HO.lst (ys ++ [.ref p1])) = G2 at *
          walk_at "rd"
          intro p2 hp2
          have x2 := Ex.new (o := HO.tup [.int (sigOf sx c), optV none, .int 0, .int 1]) hp2
          walk_at "rd"
          refine go_app (x2 _ _ hl2) (big _ (by rw [List.length_append]; simp only [List.length_cons, List.length_nil]; omega)) ?_
          have t2 := ((t1.ex x2).snoc (s := ⟨sigOf sx c, none, 0, 1⟩) ⟨p2, rfl, upd_same⟩).mut (o := .lst (ys ++ [.ref p1] ++ [.ref p2])) (x2 _ _ hl2)
          rw [List.append_assoc (behindMixer c (ss.take i))] at t2
          exact ⟨_, _, _, _, _, _, _, _, rfl, Ex.mut (E2.trans x2) hl, upd_same, t2⟩
        | some g =>
          refine ite2 (fun _ => ?_) (fun q => absurd q (by simp [optV]))
          walk_at "rd"
          rw [show optV (some g) = V.int g from rfl]
          walk_at "rd"
          refine ite2 (fun q => ?_) (fun q => ?_)
          · have hm : mixS c sx = [⟨sx.lo, some g, absI (sx.num - c), -1⟩] := by
              unfold mixS
              rw [if_neg d', hh]
              exact if_pos (of_decide_eq_true q)
            rw [hm]
            walk_at "rd"
            intro p1 hp1
            have x1 := Ex.new (o := HO.tup [.int sx.lo, .int g, .int (absI (sx.num - c)), .int (-1)]) hp1
            walk_at "rd"
            refine go_app (x1 _ _ hG1) (big _ (by omega)) ?_
            exact ⟨_, _, _, _, _, _, _, _, rfl, Ex.mut (E1.trans x1) hl, upd_same, (((hY1.ex x1).snoc ⟨p1, rfl, upd_same⟩).mut (x1 _ _ hG1))⟩
          · have hm : mixS c sx = [⟨sx.lo, some (sigOf sx c), absI (sx.num - c), -1⟩, ⟨sigOf sx c, some g, 0, 1⟩] := by
              unfold mixS
              rw [if_neg d', hh]
              exact if_neg (fun z => q (decide_eq_true z))
            rw [hm]
            walk_at "rd"
            intro p1 hp1
            have x1 := Ex.new (o := HO.tup [.int sx.lo, .int (sigOf sx c), .int (absI (sx.num - c)), .int (-1)]) hp1
            walk_at "rd"
            refine go_app (x1 _ _ hG1) (big _ (by omega)) ?_
            have t1 := ((hY1.ex x1).snoc (s := ⟨sx.lo, some (sigOf sx c), absI (sx.num - c), -1⟩) ⟨p1, rfl, upd_same⟩).mut (o := .lst (ys ++ [.ref p1])) (x1 _ _ hG1)
            have E2 := Ex.mut (E1.trans x1) hl (o := .lst (ys ++ [.ref p1]))
            have hl2 := upd_same (H := upd G1 p1 (HO.tup [.int sx.lo, .int (sigOf sx c), .int (absI (sx.num - c)), .int (-1)])) (a := l) (o := HO.lst (ys ++ [.ref p1]))
            generalize upd (upd G1 p1 (HO.tup [.int sx.lo, .int (sigOf sx c), .int (absI (sx.num - c)), .int (-1)])) l (HO.lst (ys ++ [.ref p1])) = G2 at *
            walk_at "rd"
            intro p2 hp2
            have x2 := Ex.new (o := HO.tup [.int (sigOf sx c), .int g, .int 0, .int 1]) hp2
            walk_at "rd"
            refine go_app (x2 _ _ hl2) (big _ (by rw [List.length_append]; simp only [List.length_cons, List.length_nil]; omega)) ?_
            have t2 := ((t1.ex x2).snoc (s := ⟨sigOf sx c, some g, 0, 1⟩) ⟨p2, rfl, upd_same⟩).mut (o := .lst (ys ++ [.ref p1] ++ [.ref p2])) (x2 _ _ hl2)
            rw [List.append_assoc (behindMixer c (ss.take i))] at t2
            exact ⟨_, _, _, _, _, _, _, _, rfl, Ex.mut (E2.trans x2) hl, upd_same, t2⟩
    · rintro σ G ⟨ys, _, _, _, _, _, _, _, rfl, e, hG, hY⟩
      walk_at "rd"
      refine k l G e ⟨ys, hG, ?_⟩
      rw [hT.len, List.take_length] at hY
      exact hY
end
end Kx

set_option Elab.async false
set_option linter.all false
set_option maxRecDepth 100000
set_option maxHeartbeats 2000000

namespace Kx
open PySem PySem.Spec PyProof.Rows L2 HX
open Evl (Ex)
local macro_rules | `(tactic| walk_at "side") => `(tactic| first | assumption | ((try dsimp only); first | assumption | decide +kernel | omega | exact ⟨by decide, by decide⟩ | (left; decide) | (left; omega) | (refine Or.inl ⟨?_, ?_⟩ <;> omega) | (refine Or.inr ⟨?_, ?_⟩ <;> omega)))
local macro_rules | `(tactic| walk_at "heap") => `(tactic| first | assumption | exact upd_same | exact Or.inl (by assumption) | exact Or.inl upd_same)
local macro_rules | `(tactic| walk_at "item") => `(tactic| first | exact rfl | exact atI_nat (j := 0) rfl | exact atI_nat (j := 1) rfl | exact atI_nat (j := 2) rfl | assumption)
local macro_rules | `(tactic| walk_at "rd") => `(tactic| repeat (first
  | ((with_reducible refine' go_var ?hv ?_); (case hv => exact rfl))
  | with_reducible refine' go_c ?_
  | with_reducible refine' go_op ?_
  | with_reducible refine' go_seq ?_
  | with_reducible refine' go_asg ?_
  | with_reducible refine' go_name ?_
  | with_reducible refine' go_cons ?_
  | with_reducible refine' go_nil ?_
  | with_reducible refine' go_cb ?_
  | with_reducible refine' go_call ?_
  | with_reducible refine' go_ifS ?_
  | with_reducible refine' go_test ?_
  | with_reducible refine' go_bl ?_
  | with_reducible refine' go_ret ?_
  | with_reducible refine' go_I0 ?_
  | ((with_reducible refine' go_I ?cc ?_); (case cc => walk_at "side"))
  | ((with_reducible refine' go_ixL ?hh ?hk ?_); (case hh => walk_at "heap"); (case hk => walk_at "item"))
  | ((with_reducible refine' go_ixT ?hh ?hk ?_); (case hh => walk_at "heap"); (case hk => walk_at "item"))
  | ((with_reducible refine' go_lenL ?hh ?_); (case hh => walk_at "heap"))
  | ((with_reducible refine' go_lenT ?hh ?_); (case hh => walk_at "heap"))
  | ((with_reducible refine' go_setL ?hh ?hk ?_); (case hh => walk_at "heap"); (case hk => walk_at "item"))
  | with_reducible refine' go_abs ?_
  | with_reducible refine' go_max ?_
  | with_reducible refine' go_min ?_
  | with_reducible refine' go_int ?_
  | with_reducible refine' go_intB ?_
  | (with_reducible refine' go_eq rfl ?_)
  | (with_reducible refine' go_ne rfl ?_)
  | with_reducible refine' go_isN ?_
  | with_reducible refine' go_notN ?_
  | with_reducible refine' go_if ?_
  | with_reducible refine' go_sub ?_
  | with_reducible refine' go_par ?_
  | with_reducible refine' go_sl ?_
  | with_reducible refine' go_part ?_
  | with_reducible refine' go_pint ?_
  | with_reducible refine' go_nopart ?_
  | ((with_reducible refine' go_lenL ?hh ?_); (case hh => walk_at "heap"))
  | ((with_reducible refine' go_lenT ?hh ?_); (case hh => walk_at "heap"))
  | ((with_reducible refine' go_lenS ?hh ?_); (case hh => assumption))
  | with_reducible refine' go_gcons ?_
  | with_reducible refine' go_gnil ?_
  | with_reducible refine' go_kw ?_
  | with_reducible refine' go_par2 ?_
  | with_reducible refine' go_next ?_
  | with_reducible refine' go_drop ?_
  | with_reducible refine' go_and ?_
  | with_reducible refine' go_or ?_
  | with_reducible refine' go_not ?_
  | with_reducible refine' go_B ?_
  | with_reducible refine' go_andV ?_
  | with_reducible refine' go_orV ?_
  | with_reducible refine' go_notV ?_
  | with_reducible refine' go_chain ?_
  | with_reducible refine' go_un ?_
  | with_reducible refine' go_U ?_
  | with_reducible refine' go_bm ?_
  | with_reducible refine' go_tup ?_
  | with_reducible refine' go_lst ?_
  | with_reducible refine' go_forR1 ?_
  | with_reducible refine' go_forR2 ?_
  | with_reducible refine' go_forL ?_
  | with_reducible refine' go_forT ?_
  | with_reducible refine' go_forE ?_
  | with_reducible refine' go_lcR1 ?_
  | with_reducible refine' go_lcL ?_
  | with_reducible refine' go_lcT ?_
  | ((with_reducible refine' go_tyL ?hh ?_); (case hh => walk_at "heap"))
  | ((with_reducible refine' go_new ?hz ?_); (case hz => exact Nat.le_of_ble_eq_true rfl))
  | (with_reducible refine' ⟨_, rfl, ?_⟩)
  ))
--MACEND
/-- where a pass leaves only the turn of two stretches, both leave the same signal -/
def again (acc : List Sx) (p : Sx) : Bool := decide (p.hi = some p.lo) && (match acc.getLast? with | none => false | some t => decide (t.hi = some p.lo))
def passStep (low high : Int) (acc : List Sx) (s : Sx) : List Sx := match cutN s low high with
  | none => acc
  | some p => if again acc p then acc else acc ++ [p]
def behindPass (low high : Int) (ss : List Sx) : List Sx := ss.foldl (passStep low high) []
theorem pass_take (low high : Int) {ss : List Sx} {i : Nat} {s : Sx} (h : ss[i]? = some s) : behindPass low high (ss.take (i + 1)) = passStep low high (behindPass low high (ss.take i)) s := by
  rw [List.take_succ, h]
  simp [behindPass]
theorem pass_len (low high : Int) (ss : List Sx) : (behindPass low high ss).length ≤ ss.length := by
  have key : ∀ (ss acc : List Sx), (ss.foldl (passStep low high) acc).length ≤ acc.length + ss.length := by
    intro ss
    induction ss with
    | nil => intro acc; simp
    | cons s ss ih =>
      intro acc
      have h1 : (passStep low high acc s).length ≤ acc.length + 1 := by
        unfold passStep
        split
        · omega
        · split <;> simp
      have h2 := ih (passStep low high acc s)
      simp only [List.foldl_cons, List.length_cons]
      omega
  have := key ss []
  unfold behindPass
  simpa using this
def spPassL : Sp := fun vs H Q _ => ∃ p low high ss, vs = [.ref p, .int low, .int high] ∧ Lx H p ss ∧ (∀ s ∈ ss, Wy s) ∧ ss.length ≤ 100000 ∧ ∀ q H', Ex H H' → Lx H' q (behindPass low high ss) → Q (.ref q) H'
theorem eq_optL (i : Int) (o : Option Int) : decide (V.int i = optV o) = decide (o = some i) := by
  cases o with
  | none => simp [optV]
  | some j => simp [optV, eq_comm]
theorem eq_optR (i : Int) (o : Option Int) : decide (optV o = V.int i) = decide (o = some i) := by
  cases o with
  | none => simp [optV]
  | some j => simp [optV]
section
variable {P : Program} {w : World} {K : PySem.W.Frag} {mg : Str → Option Value} {base : Heap}
abbrev s__behind_pass : Stmt := top 32
theorem sc__behind_pass : FnScope ["stretches", "low", "high", "passed", "stretch", "part"] ["stretches", "low", "high"] (defScope s__behind_pass) := ⟨rfl, rfl, rfl, by decide +kernel, rfl, by decide +kernel, by decide +kernel⟩
theorem ok_pass {f : Addr} {fd : FuncData} (F : Fun K "_behind_pass" "_behind_pass" s__behind_pass f fd) (h_cut_to_numbers : Has P w K mg base 2 "cut_to_numbers" spCutN) : FnOk P w K mg base CX0 3 f fd ["stretches", "low", "high"] spPassL := by
  refine F.ok sc__behind_pass (fun vs H Q E h => ?_) (fun cdv A outer s H vs Q E hr h => ?_)
  · obtain ⟨p, c, d, ss, rfl, _⟩ := h
    rfl
  · obtain ⟨p, low, high, ss, rfl, ⟨xs, hp, hT⟩, hw, hn, k⟩ := h
    refine ⟨_, (pss_cons (ps_set (i := 3) sc__behind_pass.nd rfl (Or.inl rfl) (pe_lst pa_nil))
  (pss_cons (ps_for PassesOwn.never rfl (pi_list (pv 0)) (pg_name (i := 4) sc__behind_pass.nd rfl (Or.inl rfl))
  (pss_cons (ps_set (i := 5) sc__behind_pass.nd rfl (Or.inl rfl) (pe_hs h_cut_to_numbers hr rfl (pa_cons (pv 4) (pa_cons (pv 1) (pa_cons (pv 2) pa_nil)))))
  (pss_cons (ps_if (pt_cmpR op_isN1 (pv 5) pe_non (nomark _))
  (pss_one ps_continue)
  pss_nil)
  (pss_cons (ps_if (PW.pt (pw_and (pt_cmpR op_eq (pe_ix ix_tup (pv 5) pe_int (fun _ _ => rfl)) (pe_ix ix_tup (pv 5) pe_int (fun _ _ => rfl)) (nomark _)) (pw_and (pt_truth (pv 3) (by intro _; rfl)) (pw_and1 (pt_cmpR op_eq (pe_ix ix_tup (pe_ix ix_list (pv 3) (pe_un un_neg pe_int) (fun _ _ => rfl)) pe_int (fun _ _ => rfl)) (pe_ix ix_tup (pv 5) pe_int (fun _ _ => rfl)) (nomark _))))))
  (pss_one ps_continue)
  pss_nil)
  (pss_one (ps_expr (pe_bm PySem.F.plainAttrs_list PySem.F.slot_list_append PySem.F.type_list_append mt_append (pv 3) (pa_cons (pv 5) pa_nil))))))))
  (pss_one (ps_ret (pv 3))))), ?_⟩
    walk_at "rd"
    intro l hl
    have e0 := Ex.new (o := HO.lst []) hl
    walk_at "rd"
    refine ⟨⟨xs, .inl (.inl (e0 _ _ hp))⟩, ?_⟩
    refine run_forL xs (fun i σ G => ∃ (ys : List V) (v4 v5 : Option V), σ = [some (.ref p), some (.int low), some (.int high), some (.ref l), v4, v5] ∧ Ex H G ∧ G l = some (.lst ys) ∧ Txs G ys (behindPass low high (ss.take i))) ?_ ?_ ?_ ?_
    · exact ⟨[], _, _, rfl, e0, upd_same, Txs.nil⟩
    · rintro i σ G _ ⟨_, _, _, rfl, e, _⟩
      exact .inl (.inl (e _ _ hp))
    · rintro i v σ G hi ⟨ys, v4, v5, rfl, e, hG, hY⟩
      obtain ⟨sx, hs, hv⟩ := hT.get i v hi
      have hws := hw sx (List.mem_of_getElem? hs)
      have hlen : ys.length ≤ 100000 := by
        rw [hY.len]
        have h1 := pass_len low high (ss.take i)
        rw [List.length_take] at h1
        omega
      rw [pass_take low high hs]
      walk_at "rd"
      refine ⟨v, sx, low, high, rfl, hv.ex e, hws, ?_⟩
      unfold passStep
      cases hc : cutN sx low high with
      | none =>
        intro G1 e1
        walk_at "rd"
        refine ite2 (fun _ => ?_) (fun c => absurd (decide_eq_true rfl) c)
        exact ⟨ys, _, _, rfl, e.trans e1, e1 _ _ hG, hY.ex e1⟩
      | some q =>
        intro pq G1 e1 hq
        have hG1 := e1 _ _ hG
        have hY1 := hY.ex e1
        walk_at "rd"
        refine ite2 (fun c => absurd c (by simp)) (fun _ => ?_)
        walk_at "rd"
        refine go_eq (by cases q.hi <;> rfl) ?_
        rw [eq_optL]
        walk_at "rd"
        have big : ys.length < sizeLine := Nat.lt_of_le_of_lt hlen (by rw [sizeLine_eq]; decide)
        have add : again (behindPass low high (ss.take i)) q = false → ∃ (ys' : List V) (v4' v5' : Option V), [some (V.ref p), some (.int low), some (.int high), some (.ref l), some v, some (.ref pq)] = [some (.ref p), some (.int low), some (.int high), some (.ref l), v4', v5'] ∧
            Ex H (upd G1 l (.lst (ys ++ [.ref pq]))) ∧ upd G1 l (.lst (ys ++ [.ref pq])) l = some (.lst ys') ∧ Txs (upd G1 l (.lst (ys ++ [.ref pq]))) ys' (if again (behindPass low high (ss.take i)) q then behindPass low high (ss.take i) else behindPass low high (ss.take i) ++ [q]) := fun hf => by
          rw [hf]
          exact ⟨_, _, _, rfl, Ex.mut (e.trans e1) hl, upd_same, (hY1.snoc ⟨pq, rfl, hq⟩).mut hG1⟩
        refine ite2 (fun c1 => ?_) (fun c1 => ?_)
        · walk_at "rd"
          refine ⟨!ys.isEmpty, .inl ⟨ys, .inl (.inl hG1), rfl⟩, ?_⟩
          rcases List.eq_nil_or_concat ys with hz | ⟨ys', u, hz⟩
          · subst hz
            refine ite2 (fun c => absurd c (by simp)) (fun _ => ?_)
            refine iteF ?_
            walk_at "rd"
            refine go_app hG1 big ?_
            refine add ?_
            have h0 : behindPass low high (ss.take i) = [] := List.length_eq_zero_iff.mp (by rw [← hY1.len]; rfl)
            unfold again
            rw [h0]
            simp
          · rw [List.concat_eq_append] at hz
            subst hz
            refine ite2 (fun _ => ?_) (fun c => absurd (by simp) c)
            obtain ⟨t, ht, ⟨a, rfl, ha⟩⟩ := hY1.get ys'.length u (by simp)
            have hlast : (behindPass low high (ss.take i)).getLast? = some t := by
              rw [List.getLast?_eq_getElem?, ← hY1.len]
              simpa using ht
            walk_at "rd"
            refine go_ixL (.inl hG1) (atI_last ys' _) ?_
            walk_at "rd"
            refine go_eq (by cases t.hi <;> rfl) ?_
            rw [eq_optR]
            walk_at "rd"
            have hag : again (behindPass low high (ss.take i)) q = decide (t.hi = some q.lo) := by
              unfold again
              rw [hlast, c1]
              simp
            refine ite2 (fun c2 => ?_) (fun c2 => ?_)
            · have same : Txs G1 (ys' ++ [.ref a]) (if again (behindPass low high (ss.take i)) q then behindPass low high (ss.take i) else behindPass low high (ss.take i) ++ [q]) := by
                rw [hag, c2]
                exact hY1
              exact ⟨_, _, _, rfl, e.trans e1, hG1, same⟩
            · walk_at "rd"
              refine go_app hG1 big ?_
              exact add (by rw [hag]; simpa using c2)
        · refine iteF ?_
          walk_at "rd"
          refine go_app hG1 big ?_
          exact add (by unfold again; rw [show decide (q.hi = some q.lo) = false from by simpa using c1]; rfl)
    · rintro σ G ⟨ys, _, _, rfl, e, hG, hY⟩
      walk_at "rd"
      refine k l G e ⟨ys, hG, ?_⟩
      rw [hT.len, List.take_length] at hY
      exact hY
end
end Kx

set_option Elab.async false
set_option linter.all false
set_option maxRecDepth 100000
set_option maxHeartbeats 2000000

namespace Kx
open PySem PySem.Spec PyProof.Rows L2 HX
open Evl (Ex)
local macro_rules | `(tactic| walk_at "side") => `(tactic| first | assumption | ((try dsimp only); first | assumption | decide +kernel | omega | exact ⟨by decide, by decide⟩ | (left; decide) | (left; omega) | (refine Or.inl ⟨?_, ?_⟩ <;> omega) | (refine Or.inr ⟨?_, ?_⟩ <;> omega)))
local macro_rules | `(tactic| walk_at "heap") => `(tactic| first | assumption | exact upd_same | exact Or.inl (by assumption) | exact Or.inl upd_same)
local macro_rules | `(tactic| walk_at "item") => `(tactic| first | exact rfl | exact atI_nat (j := 0) rfl | exact atI_nat (j := 1) rfl | exact atI_nat (j := 2) rfl | assumption)
local macro_rules | `(tactic| walk_at "rd") => `(tactic| repeat (first
  | ((with_reducible refine' go_var ?hv ?_); (case hv => exact rfl))
  | with_reducible refine' go_c ?_
  | with_reducible refine' go_op ?_
  | with_reducible refine' go_seq ?_
  | with_reducible refine' go_asg ?_
  | with_reducible refine' go_name ?_
  | with_reducible refine' go_cons ?_
  | with_reducible refine' go_nil ?_
  | with_reducible refine' go_cb ?_
  | with_reducible refine' go_call ?_
  | with_reducible refine' go_ifS ?_
  | with_reducible refine' go_test ?_
  | with_reducible refine' go_bl ?_
  | with_reducible refine' go_ret ?_
  | with_reducible refine' go_I0 ?_
  | ((with_reducible refine' go_I ?cc ?_); (case cc => walk_at "side"))
  | ((with_reducible refine' go_ixL ?hh ?hk ?_); (case hh => walk_at "heap"); (case hk => walk_at "item"))
  | ((with_reducible refine' go_ixT ?hh ?hk ?_); (case hh => walk_at "heap"); (case hk => walk_at "item"))
  | ((with_reducible refine' go_lenL ?hh ?_); (case hh => walk_at "heap"))
  | ((with_reducible refine' go_lenT ?hh ?_); (case hh => walk_at "heap"))
  | ((with_reducible refine' go_setL ?hh ?hk ?_); (case hh => walk_at "heap"); (case hk => walk_at "item"))
  | with_reducible refine' go_abs ?_
  | with_reducible refine' go_max ?_
  | with_reducible refine' go_min ?_
  | with_reducible refine' go_int ?_
  | with_reducible refine' go_intB ?_
  | (with_reducible refine' go_eq rfl ?_)
  | (with_reducible refine' go_ne rfl ?_)
  | with_reducible refine' go_isN ?_
  | with_reducible refine' go_notN ?_
  | with_reducible refine' go_if ?_
  | with_reducible refine' go_sub ?_
  | with_reducible refine' go_par ?_
  | with_reducible refine' go_sl ?_
  | with_reducible refine' go_part ?_
  | with_reducible refine' go_pint ?_
  | with_reducible refine' go_nopart ?_
  | ((with_reducible refine' go_lenL ?hh ?_); (case hh => walk_at "heap"))
  | ((with_reducible refine' go_lenT ?hh ?_); (case hh => walk_at "heap"))
  | ((with_reducible refine' go_lenS ?hh ?_); (case hh => assumption))
  | with_reducible refine' go_gcons ?_
  | with_reducible refine' go_gnil ?_
  | with_reducible refine' go_kw ?_
  | with_reducible refine' go_par2 ?_
  | with_reducible refine' go_next ?_
  | with_reducible refine' go_drop ?_
  | with_reducible refine' go_and ?_
  | with_reducible refine' go_or ?_
  | with_reducible refine' go_not ?_
  | with_reducible refine' go_B ?_
  | with_reducible refine' go_andV ?_
  | with_reducible refine' go_orV ?_
  | with_reducible refine' go_notV ?_
  | with_reducible refine' go_chain ?_
  | with_reducible refine' go_un ?_
  | with_reducible refine' go_U ?_
  | with_reducible refine' go_bm ?_
  | with_reducible refine' go_tup ?_
  | with_reducible refine' go_lst ?_
  | with_reducible refine' go_forR1 ?_
  | with_reducible refine' go_forR2 ?_
  | with_reducible refine' go_forL ?_
  | with_reducible refine' go_forT ?_
  | with_reducible refine' go_forE ?_
  | with_reducible refine' go_lcR1 ?_
  | with_reducible refine' go_lcL ?_
  | with_reducible refine' go_lcT ?_
  | ((with_reducible refine' go_tyL ?hh ?_); (case hh => walk_at "heap"))
  | ((with_reducible refine' go_new ?hz ?_); (case hz => exact Nat.le_of_ble_eq_true rfl))
  | (with_reducible refine' ⟨_, rfl, ?_⟩)
  ))
--MACEND
def strStep (dial : Int) (acc : List Sx) : Stg → List Sx
  | .mix lo => behindMixer lo acc
  | .dial a => behindMixer (dial + a) acc
  | .pass lo hi => behindPass lo hi acc
def strAt (dial : Int) (ss : List Stg) : List Sx := ss.foldl (strStep dial) [⟨0, none, 0, 1⟩]
theorem str_take (dial : Int) {ss : List Stg} {i : Nat} {s : Stg} (h : ss[i]? = some s) : strAt dial (ss.take (i + 1)) = strStep dial (strAt dial (ss.take i)) s := by
  rw [List.take_succ, h]
  simp [strAt]
theorem cutS_way {s p : Sx} {low : Int} {high : Option Int} (h : cutS s low high = some p) : p.way = s.way := by
  unfold cutS at h
  split at h
  · split at h
    · cases h
    · cases h; rfl
  · cases h; rfl
theorem wy_mixS {c : Int} {s t : Sx} (h : t ∈ mixS c s) : Wy t := by
  unfold mixS at h
  split at h
  · rw [List.mem_singleton.mp h]; exact .inl rfl
  · split at h
    · split at h
      · rw [List.mem_singleton.mp h]; exact .inr rfl
      · rcases List.mem_cons.mp h with rfl | h
        · exact .inr rfl
        · rw [List.mem_singleton.mp h]; exact .inl rfl
    · rcases List.mem_cons.mp h with rfl | h
      · exact .inr rfl
      · rw [List.mem_singleton.mp h]; exact .inl rfl
theorem wy_mixer {c : Int} {ss : List Sx} : ∀ t ∈ behindMixer c ss, Wy t := fun t h => by
  obtain ⟨s, _, h2⟩ := List.mem_flatMap.mp h
  exact wy_mixS h2
theorem wy_pass {low high : Int} {ss : List Sx} (hw : ∀ s ∈ ss, Wy s) : ∀ t ∈ behindPass low high ss, Wy t := by
  have key : ∀ (ss acc : List Sx), (∀ s ∈ ss, Wy s) → (∀ t ∈ acc, Wy t) → ∀ t ∈ ss.foldl (passStep low high) acc, Wy t := by
    intro ss
    induction ss with
    | nil => intro acc _ h; exact h
    | cons s ss ih =>
      intro acc h1 h2
      refine ih _ (fun x hx => h1 x (List.mem_cons_of_mem _ hx)) fun t ht => ?_
      unfold passStep at ht
      split at ht
      · exact h2 t ht
      · rename_i p hp
        split at ht
        · exact h2 t ht
        · rcases List.mem_append.mp ht with ht | ht
          · exact h2 t ht
          · rw [List.mem_singleton.mp ht]
            have := h1 s List.mem_cons_self
            unfold Wy at this ⊢
            rw [cutS_way hp]
            exact this
  exact key ss [] hw fun _ h => nomatch h
theorem str_ok (dial : Int) (ss : List Stg) : (∀ t ∈ strAt dial ss, Wy t) ∧ (strAt dial ss).length ≤ 2 ^ ss.length := by
  have key : ∀ (ss : List Stg) (acc : List Sx), (∀ t ∈ acc, Wy t) → (∀ t ∈ ss.foldl (strStep dial) acc, Wy t) ∧ (ss.foldl (strStep dial) acc).length ≤ acc.length * 2 ^ ss.length := by
    intro ss
    induction ss with
    | nil => intro acc h; exact ⟨h, by simp⟩
    | cons s ss ih =>
      intro acc h
      have h1 : (∀ t ∈ strStep dial acc s, Wy t) ∧ (strStep dial acc s).length ≤ 2 * acc.length := by
        cases s with
        | mix lo => exact ⟨wy_mixer, mixer_len _ _⟩
        | dial a => exact ⟨wy_mixer, mixer_len _ _⟩
        | pass lo top => exact ⟨wy_pass h, Nat.le_trans (pass_len _ _ _) (by omega)⟩
      obtain ⟨h2, h3⟩ := ih _ h1.1
      refine ⟨h2, ?_⟩
      simp only [List.foldl_cons, List.length_cons, Nat.pow_succ]
      refine Nat.le_trans h3 ?_
      rw [Nat.mul_comm (2 ^ ss.length) 2, ← Nat.mul_assoc, Nat.mul_comm acc.length 2]
      exact Nat.mul_le_mul_right _ h1.2
  have := key ss [⟨0, none, 0, 1⟩] (fun t ht => by rw [List.mem_singleton.mp ht]; exact .inl rfl)
  simpa [strAt] using this
def spStr : Sp := fun vs H Q _ => ∃ x ss dial, vs = [x, .int dial] ∧ Dq H x (.list (ss.map Stg.d)) ∧ ss.length ≤ 8 ∧ ∀ q H', Ex H H' → Lx H' q (strAt dial ss) → Q (.ref q) H'
theorem Lx.ex {H H' : Hp} {p : Addr} {ss : List Sx} (e : Ex H H') : Lx H p ss → Lx H' p ss := fun ⟨xs, h1, h2⟩ => ⟨xs, e _ _ h1, h2.ex e⟩
section
variable {P : Program} {w : World} {K : PySem.W.Frag} {mg : Str → Option Value} {base : Heap}
abbrev s_stretches_at : Stmt := top 28
theorem sc_stretches_at : FnScope ["stages", "dial", "stretches", "stage", "center"] ["stages", "dial"] (defScope s_stretches_at) := ⟨rfl, rfl, rfl, by decide +kernel, rfl, by decide +kernel, by decide +kernel⟩
theorem ok_stretches {f : Addr} {fd : FuncData} (F : Fun K "stretches_at" "stretches_at" s_stretches_at f fd) (h_mixing_tone : Has P w K mg base 1 "mixing_tone" spMixing) (h__behind_mixer : Has P w K mg base 2 "_behind_mixer" spMixL)
    (h__behind_pass : Has P w K mg base 3 "_behind_pass" spPassL) : FnOk P w K mg base CX0 4 f fd ["stages", "dial"] spStr := by
  refine F.ok sc_stretches_at (fun vs H Q E h => ?_) (fun cdv A outer s H vs Q E hr h => ?_)
  · obtain ⟨x, ss, dial, rfl, _⟩ := h
    rfl
  · obtain ⟨x, ss, dial, rfl, hx, h8, k⟩ := h
    refine ⟨_, (pss_cons (ps_set (i := 2) sc_stretches_at.nd rfl (Or.inl rfl) (pe_lst (pa_cons (pe_tup (pa_cons pe_int (pa_cons pe_non (pa_cons pe_int (pa_cons pe_int pa_nil))))) pa_nil)))
  (pss_cons (ps_for PassesOwn.never rfl (pi_list (pv 0)) (pg_name (i := 3) sc_stretches_at.nd rfl (Or.inl rfl))
  (pss_cons (ps_set (i := 4) sc_stretches_at.nd rfl (Or.inl rfl) (pe_hs h_mixing_tone hr rfl (pa_cons (pv 3) (pa_cons (pv 1) pa_nil))))
  (pss_one (ps_if (pt_cmpR op_isN1 (pv 4) pe_non (nomark _))
  (pss_one (ps_set (i := 2) sc_stretches_at.nd rfl (Or.inl rfl) (pe_hs h__behind_pass hr rfl (pa_cons (pv 2) (pa_cons (pe_ix ix_tup (pv 3) pe_int (fun _ _ => rfl)) (pa_cons (pe_ix ix_tup (pv 3) pe_int (fun _ _ => rfl)) pa_nil))))))
  (pss_one (ps_set (i := 2) sc_stretches_at.nd rfl (Or.inl rfl) (pe_hs h__behind_mixer hr rfl (pa_cons (pv 2) (pa_cons (pv 4) pa_nil)))))))))
  (pss_one (ps_ret (pv 2))))), ?_⟩
    obtain ⟨a, xs, rfl, ha, hda⟩ := hx.listAt
    walk_at "rd"
    intro p0 hp0
    have e0 := Ex.new (o := HO.tup [.int 0, .non, .int 0, .int 1]) hp0
    walk_at "rd"
    intro l hl
    have e1 := Ex.new (o := HO.lst [.ref p0]) hl
    have e2 := e0.trans e1
    walk_at "rd"
    refine ⟨⟨xs, .inl (Evl.ex_rd e2 ha)⟩, ?_⟩
    refine run_forL xs (fun i σ G => ∃ (q : Addr) (v3 v4 : Option V), σ = [some (.ref a), some (.int dial), some (.ref q), v3, v4] ∧ Ex H G ∧ Lx G q (strAt dial (ss.take i))) ?_ ?_ ?_ ?_
    · refine ⟨l, _, _, rfl, e2, [.ref p0], upd_same, ?_⟩
      exact Txs.nil.snoc (s := ⟨0, none, 0, 1⟩) ⟨p0, rfl, e1 _ _ upd_same⟩
    · rintro i σ G _ ⟨_, _, _, rfl, e, _⟩
      exact .inl (Evl.ex_rd e ha)
    · rintro i v σ G hi ⟨q, v3, v4, rfl, e, hL⟩
      obtain ⟨st, hs, hv⟩ := dqa_get hda hi
      obtain ⟨wy, len⟩ := str_ok dial (ss.take i)
      have hlen : (strAt dial (ss.take i)).length ≤ 100000 := by
        refine Nat.le_trans len (Nat.le_trans (Nat.pow_le_pow_right (by decide) (show (ss.take i).length ≤ 8 by rw [List.length_take]; omega)) (by decide))
      rw [str_take dial hs]
      walk_at "rd"
      refine ⟨v, st, dial, rfl, hv.ex e, fun G1 e3 => ?_⟩
      have hv1 := hv.ex (e.trans e3)
      have hL1 := hL.ex e3
      walk_at "rd"
      cases st with
      | mix lo =>
        refine ite2 (fun c => absurd c (by simp [Stg.center])) (fun _ => ?_)
        walk_at "rd"
        refine ⟨q, lo, _, rfl, hL1, wy, hlen, fun q2 G2 e4 hL2 => ?_⟩
        walk_at "rd"
        exact ⟨q2, _, _, rfl, (e.trans e3).trans e4, hL2⟩
      | dial d =>
        refine ite2 (fun c => absurd c (by simp [Stg.center])) (fun _ => ?_)
        walk_at "rd"
        refine ⟨q, dial + d, _, rfl, hL1, wy, hlen, fun q2 G2 e4 hL2 => ?_⟩
        walk_at "rd"
        exact ⟨q2, _, _, rfl, (e.trans e3).trans e4, hL2⟩
      | pass lo top =>
        refine ite2 (fun _ => ?_) (fun c => absurd (by simp [Stg.center]) c)
        obtain ⟨b, rfl, hb⟩ := stg_at hv1
        dsimp only at hb
        walk_at "rd"
        refine ⟨q, lo, top, _, rfl, hL1, wy, hlen, fun q2 G2 e4 hL2 => ?_⟩
        walk_at "rd"
        exact ⟨q2, _, _, rfl, (e.trans e3).trans e4, hL2⟩
    · rintro σ G ⟨q, _, _, rfl, e, hL⟩
      walk_at "rd"
      refine k q G e ?_
      rw [hda.len, List.length_map, List.take_length] at hL
      exact hL
end
end Kx

set_option Elab.async false
set_option linter.all false
set_option maxRecDepth 100000
set_option maxHeartbeats 2000000

namespace Kx
open PySem PySem.Spec PyProof.Rows L2 HX
open Evl (Ex)
local macro_rules | `(tactic| walk_at "side") => `(tactic| first | assumption | ((try dsimp only); first | assumption | decide +kernel | omega | exact ⟨by decide, by decide⟩ | (left; decide) | (left; omega) | (refine Or.inl ⟨?_, ?_⟩ <;> omega) | (refine Or.inr ⟨?_, ?_⟩ <;> omega)))
local macro_rules | `(tactic| walk_at "heap") => `(tactic| first | assumption | exact upd_same | exact Or.inl (by assumption) | exact Or.inl upd_same)
local macro_rules | `(tactic| walk_at "item") => `(tactic| first | exact rfl | exact atI_nat (j := 0) rfl | exact atI_nat (j := 1) rfl | exact atI_nat (j := 2) rfl | assumption)
local macro_rules | `(tactic| walk_at "rd") => `(tactic| repeat (first
  | ((with_reducible refine' go_var ?hv ?_); (case hv => exact rfl))
  | with_reducible refine' go_c ?_
  | with_reducible refine' go_op ?_
  | with_reducible refine' go_seq ?_
  | with_reducible refine' go_asg ?_
  | with_reducible refine' go_name ?_
  | with_reducible refine' go_cons ?_
  | with_reducible refine' go_nil ?_
  | with_reducible refine' go_cb ?_
  | with_reducible refine' go_call ?_
  | with_reducible refine' go_ifS ?_
  | with_reducible refine' go_test ?_
  | with_reducible refine' go_bl ?_
  | with_reducible refine' go_ret ?_
  | with_reducible refine' go_I0 ?_
  | ((with_reducible refine' go_I ?cc ?_); (case cc => walk_at "side"))
  | ((with_reducible refine' go_ixL ?hh ?hk ?_); (case hh => walk_at "heap"); (case hk => walk_at "item"))
  | ((with_reducible refine' go_ixT ?hh ?hk ?_); (case hh => walk_at "heap"); (case hk => walk_at "item"))
  | ((with_reducible refine' go_lenL ?hh ?_); (case hh => walk_at "heap"))
  | ((with_reducible refine' go_lenT ?hh ?_); (case hh => walk_at "heap"))
  | ((with_reducible refine' go_setL ?hh ?hk ?_); (case hh => walk_at "heap"); (case hk => walk_at "item"))
  | with_reducible refine' go_abs ?_
  | with_reducible refine' go_max ?_
  | with_reducible refine' go_min ?_
  | with_reducible refine' go_int ?_
  | with_reducible refine' go_intB ?_
  | (with_reducible refine' go_eq rfl ?_)
  | (with_reducible refine' go_ne rfl ?_)
  | with_reducible refine' go_isN ?_
  | with_reducible refine' go_notN ?_
  | with_reducible refine' go_if ?_
  | with_reducible refine' go_sub ?_
  | with_reducible refine' go_par ?_
  | with_reducible refine' go_sl ?_
  | with_reducible refine' go_part ?_
  | with_reducible refine' go_pint ?_
  | with_reducible refine' go_nopart ?_
  | ((with_reducible refine' go_lenL ?hh ?_); (case hh => walk_at "heap"))
  | ((with_reducible refine' go_lenT ?hh ?_); (case hh => walk_at "heap"))
  | ((with_reducible refine' go_lenS ?hh ?_); (case hh => assumption))
  | with_reducible refine' go_gcons ?_
  | with_reducible refine' go_gnil ?_
  | with_reducible refine' go_kw ?_
  | with_reducible refine' go_par2 ?_
  | with_reducible refine' go_next ?_
  | with_reducible refine' go_drop ?_
  | with_reducible refine' go_and ?_
  | with_reducible refine' go_or ?_
  | with_reducible refine' go_not ?_
  | with_reducible refine' go_B ?_
  | with_reducible refine' go_andV ?_
  | with_reducible refine' go_orV ?_
  | with_reducible refine' go_notV ?_
  | with_reducible refine' go_chain ?_
  | with_reducible refine' go_un ?_
  | with_reducible refine' go_U ?_
  | with_reducible refine' go_bm ?_
  | with_reducible refine' go_tup ?_
  | with_reducible refine' go_lst ?_
  | with_reducible refine' go_forR1 ?_
  | with_reducible refine' go_forR2 ?_
  | with_reducible refine' go_forL ?_
  | with_reducible refine' go_forT ?_
  | with_reducible refine' go_forE ?_
  | with_reducible refine' go_lcR1 ?_
  | with_reducible refine' go_lcL ?_
  | with_reducible refine' go_lcT ?_
  | ((with_reducible refine' go_tyL ?hh ?_); (case hh => walk_at "heap"))
  | ((with_reducible refine' go_new ?hz ?_); (case hz => exact Nat.le_of_ble_eq_true rfl))
  | (with_reducible refine' ⟨_, rfl, ?_⟩)
  ))
--MACEND
/-- all numbers of a stretch are far from where arithmetic ends -/
structure Bd (n : Nat) (s : Sx) : Prop where
  lo : s.lo.natAbs < 2 ^ n
  num : s.num.natAbs < 2 ^ n
  hi : ∀ g, s.hi = some g → g.natAbs < 2 ^ n
theorem sm_of {x : Int} (h : x.natAbs ≤ 8 * 2 ^ 2000) : Sm x := Nat.lt_of_le_of_lt h (by decide +kernel)
def endOf (s : Sx) (g : Int) : Int := s.num + s.way * (g - s.lo)
theorem end_bd {s : Sx} {g : Int} (hw : Wy s) (b : Bd 2000 s) (hg : s.hi = some g) : (endOf s g).natAbs ≤ 3 * 2 ^ 2000 := by
  have h1 := b.lo
  have h2 := b.num
  have h3 := b.hi g hg
  unfold endOf
  generalize (2 : Nat) ^ 2000 = B at *
  rcases hw with h | h <;> rw [h] <;> omega
def foldsA (s : Sx) (r : Int) : Int × Option Int := match s.hi with
  | none => (ffold r (s.num + 1), none)
  | some g => (ffold r (mnI s.num (endOf s g) + 1), some (lfold r (mxI s.num (endOf s g) - 1)))
def countM (s : Sx) : Option Int → Option Int
  | none => some 1
  | some r => match (foldsA s r).2 with
    | none => none
    | some l => some (l - (foldsA s r).1 + 1)
def spFolds : Sp := fun vs H Q _ => ∃ v s r, vs = [v, .int r] ∧ Tx H v s ∧ Wy s ∧ Bd 2000 s ∧ 2 ≤ r ∧ ∀ p H', Ex H H' → H' p = some (.tup [.int (foldsA s r).1, optV (foldsA s r).2]) → Q (.ref p) H'
def spCountM : Sp := fun vs H Q _ => ∃ v s rate, vs = [v, optV rate] ∧ Tx H v s ∧ Wy s ∧ Bd 2000 s ∧ (∀ r, rate = some r → 2 ≤ r) ∧ ∀ H', Ex H H' → Q (optV (countM s rate)) H'
section
variable {P : Program} {w : World} {K : PySem.W.Frag} {mg : Str → Option Value} {base : Heap}
abbrev s__folds_along : Stmt := top 43
theorem sc__folds_along : FnScope ["slope", "rate", "least", "greatest", "number", "way", "end", "first", "last"] ["slope", "rate"] (defScope s__folds_along) := ⟨rfl, rfl, rfl, by decide +kernel, rfl, by decide +kernel, by decide +kernel⟩
theorem ok_folds {f : Addr} {fd : FuncData} (F : Fun K "_folds_along" "_folds_along" s__folds_along f fd) (m_max : mg "max" = none) (m_min : mg "min" = none) (h_first_fold_to : Has P w K mg base 1 "first_fold_to" (spFold ffold)) (h_last_fold_from : Has P w K mg base 1 "last_fold_from" (spFold lfold)) :
    FnOk P w K mg base CX0 2 f fd ["slope", "rate"] spFolds := by
  refine F.ok sc__folds_along (fun vs H Q E h => ?_) (fun cdv A outer s H vs Q E hr h => ?_)
  · obtain ⟨v, s, r, rfl, _⟩ := h
    rfl
  · obtain ⟨v, s, r, rfl, ⟨a, rfl, ha⟩, hw, hb, h2, k⟩ := h
    refine ⟨_, (pss_cons (ps_asg (pv 0) (pg_tup (by rfl) (pgs_cons (pg_name (i := 2) sc__folds_along.nd rfl (Or.inl rfl)) (pgs_cons (pg_name (i := 3) sc__folds_along.nd rfl (Or.inl rfl)) (pgs_cons (pg_name (i := 4) sc__folds_along.nd rfl (Or.inl rfl)) (pgs_cons (pg_name (i := 5) sc__folds_along.nd rfl (Or.inl rfl)) pgs_nil))))))
  (pss_cons (ps_if (pt_cmpR op_isN1 (pv 3) pe_non (nomark _))
  (pss_one (ps_ret (pe_tup (pa_cons (pe_hs h_first_fold_to hr rfl (pa_cons (pv 1) (pa_cons (pe_op op_add (pv 4) pe_int) pa_nil))) (pa_cons pe_non pa_nil)))))
  pss_nil)
  (pss_cons (ps_set (i := 6) sc__folds_along.nd rfl (Or.inl rfl) (pe_op op_add (pv 4) (pe_op op_mul (pv 5) (pe_op op_sub (pv 3) (pv 2)))))
  (pss_cons (ps_set (i := 7) sc__folds_along.nd rfl (Or.inl rfl) (pe_hs h_first_fold_to hr rfl (pa_cons (pv 1) (pa_cons (pe_op op_add (pe_callB (call_minQ rfl) rfl m_min boot_min (pa_cons (pv 4) (pa_cons (pv 6) pa_nil))) pe_int) pa_nil))))
  (pss_cons (ps_set (i := 8) sc__folds_along.nd rfl (Or.inl rfl) (pe_hs h_last_fold_from hr rfl (pa_cons (pv 1) (pa_cons (pe_op op_sub (pe_callB (call_maxQ rfl) rfl m_max boot_max (pa_cons (pv 4) (pa_cons (pv 6) pa_nil))) pe_int) pa_nil))))
  (pss_one (ps_ret (pe_tup (pa_cons (pv 7) (pa_cons (pv 8) pa_nil)))))))))), ?_⟩
    walk_at "rd"
    refine go_gtup (.inl (.inl ha)) rfl ?_
    have c1 := hb.num
    walk_at "rd"
    unfold foldsA at k
    cases hh : s.hi with
    | none =>
      rw [hh] at k
      refine ite2 (fun _ => ?_) (fun c => absurd (by simp [optV]) c)
      walk_at "rd"
      refine ⟨r, s.num + 1, rfl, h2, sm_of (by generalize (2 : Nat) ^ 2000 = B at *; omega), fun H1 e1 => ?_⟩
      walk_at "rd"
      intro p hp
      exact k p _ (e1.trans (Ex.new hp)) upd_same
    | some g =>
      rw [hh] at k
      have c2 : (s.num + s.way * (g - s.lo)).natAbs ≤ 3 * 2 ^ 2000 := end_bd hw hb hh
      have lt1 : Sm (mnI s.num (s.num + s.way * (g - s.lo)) + 1) := sm_of (by
        generalize (2 : Nat) ^ 2000 = B at *
        generalize s.num + s.way * (g - s.lo) = e at *
        unfold mnI
        split <;> omega)
      have lt2 : Sm (mxI s.num (s.num + s.way * (g - s.lo)) - 1) := sm_of (by
        generalize (2 : Nat) ^ 2000 = B at *
        generalize s.num + s.way * (g - s.lo) = e at *
        unfold mxI
        split <;> omega)
      have hm := wy_mul hw (g - s.lo)
      refine ite2 (fun c => absurd c (by simp [optV])) (fun _ => ?_)
      rw [show optV (some g) = V.int g from rfl]
      walk_at "rd"
      refine ⟨r, _, rfl, h2, lt1, fun H1 e1 => ?_⟩
      walk_at "rd"
      refine ⟨r, _, rfl, h2, lt2, fun H2 e2 => ?_⟩
      walk_at "rd"
      intro p hp
      exact k p _ ((e1.trans e2).trans (Ex.new hp)) upd_same
abbrev s__count_made : Stmt := top 41
theorem sc__count_made : FnScope ["slope", "rate", "first", "last"] ["slope", "rate"] (defScope s__count_made) := ⟨rfl, rfl, rfl, by decide +kernel, rfl, by decide +kernel, by decide +kernel⟩
theorem ok_count_made {f : Addr} {fd : FuncData} (F : Fun K "_count_made" "_count_made" s__count_made f fd) (h__folds_along : Has P w K mg base 2 "_folds_along" spFolds) : FnOk P w K mg base CX0 3 f fd ["slope", "rate"] spCountM := by
  refine F.ok sc__count_made (fun vs H Q E h => ?_) (fun cdv A outer s H vs Q E hr h => ?_)
  · obtain ⟨v, s, r, rfl, _⟩ := h
    rfl
  · obtain ⟨v, s, rate, rfl, hv, hw, hb, h2, k⟩ := h
    refine ⟨_, (pss_cons (ps_if (pt_cmpR op_isN1 (pv 1) pe_non (nomark _))
  (pss_one (ps_ret pe_int))
  pss_nil)
  (pss_cons (ps_asg (pe_hs h__folds_along hr rfl (pa_cons (pv 0) (pa_cons (pv 1) pa_nil))) (pg_tup (by rfl) (pgs_cons (pg_name (i := 2) sc__count_made.nd rfl (Or.inl rfl)) (pgs_cons (pg_name (i := 3) sc__count_made.nd rfl (Or.inl rfl)) pgs_nil))))
  (pss_one (ps_ret (pe_ifExp (pt_cmpR op_isN1 (pv 3) pe_non (nomark _)) pe_non (pe_op op_add (pe_op op_sub (pv 3) (pv 2)) pe_int)))))), ?_⟩
    cases rate with
    | none =>
      walk_at "rd"
      refine ite2 (fun _ => ?_) (fun c => absurd (by simp [optV]) c)
      walk_at "rd"
      exact k _ (Ex.refl _)
    | some r =>
      rw [show optV (some r) = V.int r from rfl]
      walk_at "rd"
      refine ite2 (fun c => absurd c (by simp)) (fun _ => ?_)
      walk_at "rd"
      refine ⟨v, s, r, rfl, hv, hw, hb, h2 r rfl, fun p H1 e1 hp => ?_⟩
      walk_at "rd"
      refine go_gtup (.inl (.inl hp)) rfl ?_
      walk_at "rd"
      unfold countM at k
      have := k H1 e1
      dsimp only at this
      cases hl : (foldsA s r).2 with
      | none =>
        rw [hl] at this
        refine ite2 (fun _ => ?_) (fun c => absurd (by simp [optV]) c)
        walk_at "rd"
        exact this
      | some l =>
        rw [hl] at this
        refine ite2 (fun c => absurd c (by simp [optV])) (fun _ => ?_)
        rw [show optV (some l) = V.int l from rfl]
        walk_at "rd"
        exact this
end
end Kx

set_option Elab.async false
set_option linter.all false
set_option maxRecDepth 100000
set_option maxHeartbeats 2000000

namespace Kx
open PySem PySem.Spec PyProof.Rows L2 HX
open Evl (Ex)
local macro_rules | `(tactic| walk_at "side") => `(tactic| first | assumption | ((try dsimp only); first | assumption | decide +kernel | omega | exact ⟨by decide, by decide⟩ | (left; decide) | (left; omega) | (refine Or.inl ⟨?_, ?_⟩ <;> omega) | (refine Or.inr ⟨?_, ?_⟩ <;> omega)))
local macro_rules | `(tactic| walk_at "heap") => `(tactic| first | assumption | exact upd_same | exact Or.inl (by assumption) | exact Or.inl upd_same)
local macro_rules | `(tactic| walk_at "item") => `(tactic| first | exact rfl | exact atI_nat (j := 0) rfl | exact atI_nat (j := 1) rfl | exact atI_nat (j := 2) rfl | assumption)
local macro_rules | `(tactic| walk_at "rd") => `(tactic| repeat (first
  | ((with_reducible refine' go_var ?hv ?_); (case hv => exact rfl))
  | with_reducible refine' go_c ?_
  | with_reducible refine' go_op ?_
  | with_reducible refine' go_seq ?_
  | with_reducible refine' go_asg ?_
  | with_reducible refine' go_name ?_
  | with_reducible refine' go_cons ?_
  | with_reducible refine' go_nil ?_
  | with_reducible refine' go_cb ?_
  | with_reducible refine' go_call ?_
  | with_reducible refine' go_ifS ?_
  | with_reducible refine' go_test ?_
  | with_reducible refine' go_bl ?_
  | with_reducible refine' go_ret ?_
  | with_reducible refine' go_I0 ?_
  | ((with_reducible refine' go_I ?cc ?_); (case cc => walk_at "side"))
  | ((with_reducible refine' go_ixL ?hh ?hk ?_); (case hh => walk_at "heap"); (case hk => walk_at "item"))
  | ((with_reducible refine' go_ixT ?hh ?hk ?_); (case hh => walk_at "heap"); (case hk => walk_at "item"))
  | ((with_reducible refine' go_lenL ?hh ?_); (case hh => walk_at "heap"))
  | ((with_reducible refine' go_lenT ?hh ?_); (case hh => walk_at "heap"))
  | ((with_reducible refine' go_setL ?hh ?hk ?_); (case hh => walk_at "heap"); (case hk => walk_at "item"))
  | with_reducible refine' go_abs ?_
  | with_reducible refine' go_max ?_
  | with_reducible refine' go_min ?_
  | with_reducible refine' go_int ?_
  | with_reducible refine' go_intB ?_
  | (with_reducible refine' go_eq rfl ?_)
  | (with_reducible refine' go_ne rfl ?_)
  | with_reducible refine' go_isN ?_
  | with_reducible refine' go_notN ?_
  | with_reducible refine' go_if ?_
  | with_reducible refine' go_sub ?_
  | with_reducible refine' go_par ?_
  | with_reducible refine' go_sl ?_
  | with_reducible refine' go_part ?_
  | with_reducible refine' go_pint ?_
  | with_reducible refine' go_nopart ?_
  | ((with_reducible refine' go_lenL ?hh ?_); (case hh => walk_at "heap"))
  | ((with_reducible refine' go_lenT ?hh ?_); (case hh => walk_at "heap"))
  | ((with_reducible refine' go_lenS ?hh ?_); (case hh => assumption))
  | with_reducible refine' go_gcons ?_
  | with_reducible refine' go_gnil ?_
  | with_reducible refine' go_kw ?_
  | with_reducible refine' go_par2 ?_
  | with_reducible refine' go_next ?_
  | with_reducible refine' go_drop ?_
  | with_reducible refine' go_and ?_
  | with_reducible refine' go_or ?_
  | with_reducible refine' go_not ?_
  | with_reducible refine' go_B ?_
  | with_reducible refine' go_andV ?_
  | with_reducible refine' go_orV ?_
  | with_reducible refine' go_notV ?_
  | with_reducible refine' go_chain ?_
  | with_reducible refine' go_un ?_
  | with_reducible refine' go_U ?_
  | with_reducible refine' go_bm ?_
  | with_reducible refine' go_tup ?_
  | with_reducible refine' go_lst ?_
  | with_reducible refine' go_forR1 ?_
  | with_reducible refine' go_forR2 ?_
  | with_reducible refine' go_forL ?_
  | with_reducible refine' go_forT ?_
  | with_reducible refine' go_forE ?_
  | with_reducible refine' go_lcR1 ?_
  | with_reducible refine' go_lcL ?_
  | with_reducible refine' go_lcT ?_
  | ((with_reducible refine' go_tyL ?hh ?_); (case hh => walk_at "heap"))
  | ((with_reducible refine' go_new ?hz ?_); (case hz => exact Nat.le_of_ble_eq_true rfl))
  | (with_reducible refine' ⟨_, rfl, ?_⟩)
  ))
--MACEND
theorem cut_end {s p : Sx} {low h : Int} (e : cutS s low (some h) = some p) : ∃ g, p.hi = some g ∧ (g = h ∨ s.hi = some g) := by
  unfold cutS at e
  cases hs : s.hi with
  | none =>
    rw [hs] at e
    simp only [topOf] at e
    split at e
    · cases e
    · cases e; exact ⟨h, rfl, .inl rfl⟩
  | some g =>
    rw [hs] at e
    simp only [topOf] at e
    by_cases q : h < g
    · rw [if_pos q] at e
      dsimp only at e
      split at e
      · cases e
      · cases e; exact ⟨h, rfl, .inl rfl⟩
    · rw [if_neg q] at e
      dsimp only at e
      split at e
      · cases e
      · cases e; exact ⟨g, rfl, .inr rfl⟩
theorem cut_lo {s p : Sx} {low : Int} {high : Option Int} (e : cutS s low high = some p) : p.lo = mxI s.lo low ∧ p.num = s.num + s.way * (mxI s.lo low - s.lo) := by
  unfold cutS at e
  split at e
  · split at e
    · cases e
    · cases e; exact ⟨rfl, rfl⟩
  · cases e; exact ⟨rfl, rfl⟩
theorem cut_aux {B C : Nat} {s p : Sx} {low h : Int} (big : 4 * B < C) (hw : Wy s) (b1 : s.lo.natAbs < B) (b2 : s.num.natAbs < B) (b3 : ∀ g, s.hi = some g → g.natAbs < B) (hl : low.natAbs < B) (hh : h.natAbs ≤ B) (e : cutS s low (some h) = some p) :
    p.lo.natAbs < C ∧ p.num.natAbs < C ∧ ∀ g, p.hi = some g → g.natAbs < C := by
  obtain ⟨g, hg, hgs⟩ := cut_end e
  obtain ⟨h1, h2⟩ := cut_lo e
  have m : (mxI s.lo low).natAbs < B := by unfold mxI; split <;> assumption
  generalize mxI s.lo low = mx at *
  refine ⟨by omega, ?_, fun g' q => ?_⟩
  · rw [h2]
    rcases hw with w | w <;> rw [w] <;> omega
  · rw [hg] at q
    cases q
    rcases hgs with rfl | q
    · omega
    · have := b3 _ q
      omega
theorem cut_bd {s p : Sx} {low h : Int} (hw : Wy s) (b : Bd 1990 s) (hl : low.natAbs < 2 ^ 1990) (hh : h.natAbs ≤ 2 ^ 1990) (e : cutS s low (some h) = some p) : Bd 2000 p :=
  let ⟨h1, h2, h3⟩ := cut_aux (B := 2 ^ 1990) (C := 2 ^ 2000) (by decide +kernel) hw b.lo b.num b.hi hl hh e
  ⟨h1, h2, h3⟩
theorem far_bd {B : Nat} {far : Int} (h : far.natAbs < B) (h0 : 0 ≤ far) : (far + 1).natAbs ≤ B := by omega
def begunStep (rate : Option Int) (far : Int) (many : Int) (s : Sx) : Int := match cutS s 0 (some (far + 1)) with
  | none => many
  | some p => if p.hi = some p.lo then many else many + (match countM p rate with | some c => c | none => 0)
def countBegun (rate : Option Int) (far : Int) (ss : List Sx) : Int := ss.foldl (begunStep rate far) 0
theorem begun_take (rate : Option Int) (far : Int) {ss : List Sx} {i : Nat} {s : Sx} (h : ss[i]? = some s) : countBegun rate far (ss.take (i + 1)) = begunStep rate far (countBegun rate far (ss.take i)) s := by
  rw [List.take_succ, h]
  simp [countBegun]
theorem count_some {p : Sx} {g : Int} (h : p.hi = some g) (rate : Option Int) : ∃ c, countM p rate = some c := by
  cases rate with
  | none => exact ⟨1, rfl⟩
  | some r =>
    unfold countM foldsA
    rw [h]
    exact ⟨_, rfl⟩
def spBegun : Sp := fun vs H Q _ => ∃ p rate far ss, vs = [.ref p, optV rate, .int far] ∧ Lx H p ss ∧ (∀ s ∈ ss, Wy s ∧ Bd 1990 s) ∧ (∀ r, rate = some r → 2 ≤ r) ∧ far.natAbs < 2 ^ 1990 ∧ 0 ≤ far ∧ ∀ H', Ex H H' → Q (.int (countBegun rate far ss)) H'
section
variable {P : Program} {w : World} {K : PySem.W.Frag} {mg : Str → Option Value} {base : Heap}
abbrev s__count_begun : Stmt := top 39
theorem sc__count_begun : FnScope ["mixed", "rate", "far", "many", "slope", "part"] ["mixed", "rate", "far"] (defScope s__count_begun) := ⟨rfl, rfl, rfl, by decide +kernel, rfl, by decide +kernel, by decide +kernel⟩
theorem ok_begun {f : Addr} {fd : FuncData} (F : Fun K "_count_begun" "_count_begun" s__count_begun f fd) (h_cut_to_signals : Has P w K mg base 1 "cut_to_signals" spCutS) (h__count_made : Has P w K mg base 3 "_count_made" spCountM) :
    FnOk P w K mg base CX0 4 f fd ["mixed", "rate", "far"] spBegun := by
  refine F.ok sc__count_begun (fun vs H Q E h => ?_) (fun cdv A outer s H vs Q E hr h => ?_)
  · obtain ⟨p, c, d, ss, rfl, _⟩ := h
    rfl
  · obtain ⟨p, rate, far, ss, rfl, ⟨xs, hp, hT⟩, hw, h2, hf, hf0, k⟩ := h
    refine ⟨_, (pss_cons (ps_set (i := 3) sc__count_begun.nd rfl (Or.inl rfl) pe_int)
  (pss_cons (ps_for PassesOwn.never rfl (pi_list (pv 0)) (pg_name (i := 4) sc__count_begun.nd rfl (Or.inl rfl))
  (pss_cons (ps_set (i := 5) sc__count_begun.nd rfl (Or.inl rfl) (pe_hs h_cut_to_signals hr rfl (pa_cons (pv 4) (pa_cons pe_int (pa_cons (pe_op op_add (pv 2) pe_int) pa_nil)))))
  (pss_one (ps_if (PW.pt (pw_and (pt_cmpR op_notN1 (pv 5) pe_non (nomark _)) (pw_and1 (pt_cmpR op_ne (pe_ix ix_tup (pv 5) pe_int (fun _ _ => rfl)) (pe_ix ix_tup (pv 5) pe_int (fun _ _ => rfl)) (nomark _)))))
  (pss_one (ps_aug (i := 3) sc__count_begun.nd rfl (.inl rfl) (pe_hs h__count_made hr rfl (pa_cons (pv 5) (pa_cons (pv 1) pa_nil))) ip_add))
  pss_nil))))
  (pss_one (ps_ret (pv 3))))), ?_⟩
    walk_at "rd"
    refine ⟨⟨xs, .inl (.inl hp)⟩, ?_⟩
    refine run_forL xs (fun i σ G => ∃ (v4 v5 : Option V), σ = [some (.ref p), some (optV rate), some (.int far), some (.int (countBegun rate far (ss.take i))), v4, v5] ∧ Ex H G) ?_ ?_ ?_ ?_
    · exact ⟨_, _, rfl, Ex.refl _⟩
    · rintro i σ G _ ⟨_, _, rfl, e⟩
      exact .inl (.inl (e _ _ hp))
    · rintro i v σ G hi ⟨v4, v5, rfl, e⟩
      obtain ⟨sx, hs, hv⟩ := hT.get i v hi
      obtain ⟨wy, bd⟩ := hw sx (List.mem_of_getElem? hs)
      rw [begun_take rate far hs]
      walk_at "rd"
      refine ⟨v, sx, 0, some (far + 1), rfl, hv.ex e, wy, ?_⟩
      unfold begunStep
      cases hc : cutS sx 0 (some (far + 1)) with
      | none =>
        intro G1 e1
        walk_at "rd"
        refine ite2 (fun c => absurd c (by simp)) (fun _ => ?_)
        refine iteF ?_
        exact ⟨_, _, rfl, e.trans e1⟩
      | some q =>
        intro pq G1 e1 hq
        obtain ⟨g, hg, _⟩ := cut_end hc
        have bq : Bd 2000 q := cut_bd wy bd (by decide +kernel) (far_bd hf hf0) hc
        have wq : Wy q := by
          unfold Wy at wy ⊢
          rw [cutS_way hc]
          exact wy
        obtain ⟨cn, hcn⟩ := count_some hg rate
        walk_at "rd"
        refine ite2 (fun _ => ?_) (fun c => absurd (by simp) c)
        walk_at "rd"
        refine go_ne (by cases q.hi <;> rfl) ?_
        rw [eq_optL]
        walk_at "rd"
        refine ite2 (fun c => ?_) (fun c => ?_)
        · have cc : ¬ q.hi = some q.lo := by simpa using c
          refine ⟨.int (countBegun rate far (ss.take i)), rfl, ?_⟩
          walk_at "rd"
          refine ⟨.ref pq, q, rate, rfl, ⟨pq, rfl, hq⟩, wq, bq, h2, fun G2 e2 => ?_⟩
          rw [hcn]
          walk_at "rd"
          refine ⟨_, _, rfl, rfl, ?_⟩
          have same : (if q.hi = some q.lo then countBegun rate far (ss.take i) else countBegun rate far (ss.take i) + (match countM q rate with | some c => c | none => 0)) = countBegun rate far (ss.take i) + cn := by
            rw [if_neg cc, hcn]
          refine ⟨some v, some (.ref pq), ?_, (e.trans e1).trans e2⟩
          dsimp only
          rw [same]
          rfl
        · have cc : q.hi = some q.lo := by simpa using c
          have same : (if q.hi = some q.lo then countBegun rate far (ss.take i) else countBegun rate far (ss.take i) + (match countM q rate with | some c => c | none => 0)) = countBegun rate far (ss.take i) := if_pos cc
          refine ⟨some v, some (.ref pq), ?_, e.trans e1⟩
          dsimp only
          rw [same]
          rfl
    · rintro σ G ⟨_, _, rfl, e⟩
      walk_at "rd"
      have := k G e
      rw [hT.len, List.take_length]
      exact this
end
end Kx

set_option Elab.async false
set_option linter.all false
set_option maxRecDepth 100000
set_option maxHeartbeats 2000000
namespace Kx
open PySem PySem.Spec PyProof.Rows L2 HX
/-! ### the folds between the first and the last one of a slope have numbers of it -/
theorem high_ge {r x f : Int} (hr : 2 ≤ r) (h : ffold r x ≤ f) : x ≤ highF r f := by
  have e := Int.emod_add_mul_ediv (x - 1) r
  have a0 := Int.emod_nonneg (x - 1) (show r ≠ 0 by omega)
  have a1 := Int.emod_lt_of_pos (x - 1) (show 0 < r by omega)
  unfold ffold at h
  generalize (x - 1) / r = b at *
  generalize (x - 1) % r = a at *
  rw [Int.mul_comm] at e
  have m : ∀ c d : Int, c ≤ d → c * r ≤ d * r := fun c d q => Int.mul_le_mul_of_nonneg_right q (by omega)
  unfold highF
  split at h
  · have k := m b (f / 2) (by omega)
    split <;> omega
  · split
    · have k := m (b + 1) (f / 2) (by omega)
      rw [Int.add_mul] at k
      omega
    · have k := m b (f / 2) (by omega)
      omega
theorem low_le {r x f : Int} (hr : 2 ≤ r) (h : f ≤ lfold r x) : lowF r f ≤ x := by
  have e := Int.emod_add_mul_ediv x r
  have a0 := Int.emod_nonneg x (show r ≠ 0 by omega)
  have a1 := Int.emod_lt_of_pos x (show 0 < r by omega)
  unfold lfold at h
  generalize x / r = b at *
  generalize x % r = a at *
  rw [Int.mul_comm] at e
  have m : ∀ c d : Int, c ≤ d → c * r ≤ d * r := fun c d q => Int.mul_le_mul_of_nonneg_right q (by omega)
  unfold lowF
  split at h
  · split
    · have k := m (f / 2) b (by omega)
      omega
    · have k := m (f / 2) (b - 1) (by omega)
      rw [Int.sub_mul] at k
      omega
  · have k := m (f / 2) b (by omega)
    split <;> omega
theorem low_high {r f : Int} (hr : 2 ≤ r) : lowF r f ≤ highF r f := by
  unfold lowF highF
  split <;> omega
theorem cutS_some {s : Sx} {low h : Int} (k : ∀ l, topOf s.hi (some h) = some l → ¬ l < mxI s.lo low) : ∃ p, cutS s low (some h) = some p := by
  unfold cutS
  split
  · rename_i l hl
    rw [if_neg (k l hl)]
    exact ⟨_, rfl⟩
  · exact ⟨_, rfl⟩
/-- a slope with an end: a fold between its first and its last one -/
theorem made_some {s : Sx} {r f g l : Int} (hr : 2 ≤ r) (hw : Wy s) (hg : s.hi = some g) (lt : s.lo < g) (h1 : (foldsA s r).1 ≤ f) (hl : (foldsA s r).2 = some l) (h2 : f ≤ l) : ∃ p, cutN s (lowF r f) (highF r f) = some p := by
  unfold foldsA at h1 hl
  rw [hg] at h1 hl
  dsimp only at h1 hl
  cases hl
  have a := high_ge hr h1
  have b := low_le hr h2
  have c := low_high (r := r) (f := f) hr
  unfold cutN
  refine cutS_some fun t ht => ?_
  rw [hg] at ht
  unfold endOf at a b
  generalize lowF r f = L at *
  generalize highF r f = U at *
  simp only [topOf] at ht
  unfold sigOf mnI mxI at *
  rcases hw with w | w <;> rw [w] at a b ht ⊢ <;> (repeat' split at ht) <;> (repeat' split at a) <;> (repeat' split at b) <;> (repeat' split) <;> simp only [Option.some.injEq] at ht <;> omega
/-- a slope without an end: a fold from its first one on -/
theorem made_some_open {s : Sx} {r f : Int} (hr : 2 ≤ r) (hw : s.way = 1) (hg : s.hi = none) (h1 : (foldsA s r).1 ≤ f) : ∃ p, cutN s (lowF r f) (highF r f) = some p := by
  unfold foldsA at h1
  rw [hg] at h1
  dsimp only at h1
  have a := high_ge hr h1
  have c := low_high (r := r) (f := f) hr
  unfold cutN
  refine cutS_some fun t ht => ?_
  rw [hg] at ht
  generalize lowF r f = L at *
  generalize highF r f = U at *
  simp only [topOf, Option.some.injEq] at ht
  subst ht
  unfold sigOf mnI mxI
  rw [hw]
  (repeat' split) <;> omega
end Kx

set_option Elab.async false
set_option linter.all false
set_option maxRecDepth 100000
set_option maxHeartbeats 4000000

namespace Kx
open PySem PySem.Spec PyProof.Rows L2 HX
open Evl (Ex)
local macro_rules | `(tactic| walk_at "side") => `(tactic| first | assumption | ((try dsimp only); first | assumption | decide +kernel | omega | exact ⟨by decide, by decide⟩ | (left; decide) | (left; omega) | (refine Or.inl ⟨?_, ?_⟩ <;> omega) | (refine Or.inr ⟨?_, ?_⟩ <;> omega)))
local macro_rules | `(tactic| walk_at "heap") => `(tactic| first | assumption | exact upd_same | exact Or.inl (by assumption) | exact Or.inl upd_same)
local macro_rules | `(tactic| walk_at "item") => `(tactic| first | exact rfl | exact atI_nat (j := 0) rfl | exact atI_nat (j := 1) rfl | exact atI_nat (j := 2) rfl | assumption)
local macro_rules | `(tactic| walk_at "rd") => `(tactic| repeat (first
  | ((with_reducible refine' go_var ?hv ?_); (case hv => exact rfl))
  | with_reducible refine' go_c ?_
  | with_reducible refine' go_op ?_
  | with_reducible refine' go_seq ?_
  | with_reducible refine' go_asg ?_
  | with_reducible refine' go_name ?_
  | with_reducible refine' go_cons ?_
  | with_reducible refine' go_nil ?_
  | with_reducible refine' go_cb ?_
  | with_reducible refine' go_call ?_
  | with_reducible refine' go_ifS ?_
  | with_reducible refine' go_test ?_
  | with_reducible refine' go_bl ?_
  | with_reducible refine' go_ret ?_
  | with_reducible refine' go_I0 ?_
  | ((with_reducible refine' go_I ?cc ?_); (case cc => walk_at "side"))
  | ((with_reducible refine' go_ixL ?hh ?hk ?_); (case hh => walk_at "heap"); (case hk => walk_at "item"))
  | ((with_reducible refine' go_ixT ?hh ?hk ?_); (case hh => walk_at "heap"); (case hk => walk_at "item"))
  | ((with_reducible refine' go_lenL ?hh ?_); (case hh => walk_at "heap"))
  | ((with_reducible refine' go_lenT ?hh ?_); (case hh => walk_at "heap"))
  | ((with_reducible refine' go_setL ?hh ?hk ?_); (case hh => walk_at "heap"); (case hk => walk_at "item"))
  | with_reducible refine' go_abs ?_
  | with_reducible refine' go_max ?_
  | with_reducible refine' go_min ?_
  | with_reducible refine' go_int ?_
  | with_reducible refine' go_intB ?_
  | (with_reducible refine' go_eq rfl ?_)
  | (with_reducible refine' go_ne rfl ?_)
  | with_reducible refine' go_isN ?_
  | with_reducible refine' go_notN ?_
  | with_reducible refine' go_if ?_
  | with_reducible refine' go_sub ?_
  | with_reducible refine' go_par ?_
  | with_reducible refine' go_sl ?_
  | with_reducible refine' go_part ?_
  | with_reducible refine' go_pint ?_
  | with_reducible refine' go_nopart ?_
  | ((with_reducible refine' go_lenL ?hh ?_); (case hh => walk_at "heap"))
  | ((with_reducible refine' go_lenT ?hh ?_); (case hh => walk_at "heap"))
  | ((with_reducible refine' go_lenS ?hh ?_); (case hh => assumption))
  | with_reducible refine' go_gcons ?_
  | with_reducible refine' go_gnil ?_
  | with_reducible refine' go_kw ?_
  | with_reducible refine' go_par2 ?_
  | with_reducible refine' go_next ?_
  | with_reducible refine' go_drop ?_
  | with_reducible refine' go_and ?_
  | with_reducible refine' go_or ?_
  | with_reducible refine' go_not ?_
  | with_reducible refine' go_B ?_
  | with_reducible refine' go_andV ?_
  | with_reducible refine' go_orV ?_
  | with_reducible refine' go_notV ?_
  | with_reducible refine' go_chain ?_
  | with_reducible refine' go_un ?_
  | with_reducible refine' go_U ?_
  | with_reducible refine' go_bm ?_
  | with_reducible refine' go_tup ?_
  | with_reducible refine' go_lst ?_
  | with_reducible refine' go_forR1 ?_
  | with_reducible refine' go_forR2 ?_
  | with_reducible refine' go_forL ?_
  | with_reducible refine' go_forT ?_
  | with_reducible refine' go_forE ?_
  | with_reducible refine' go_lcR1 ?_
  | with_reducible refine' go_lcL ?_
  | with_reducible refine' go_lcT ?_
  | ((with_reducible refine' go_tyL ?hh ?_); (case hh => walk_at "heap"))
  | ((with_reducible refine' go_new ?hz ?_); (case hz => exact Nat.le_of_ble_eq_true rfl))
  | (with_reducible refine' ⟨_, rfl, ?_⟩)
  ))
--MACEND
/-! ### the slope with an index, of those that the sampler makes of a mixed one -/
def foldOf (s : Sx) (r k : Int) : Int := if s.way = 1 then (foldsA s r).1 + k else (foldsA s r).2.getD 0 - k
def sampI (r n : Int) : Int := if r - n % r < n % r then r - n % r else n % r
def madeS (s : Sx) : Option Int → Int → Sx
  | none, _ => s
  | some r, k => match cutN s (lowF r (foldOf s r k)) (highF r (foldOf s r k)) with
    | some p => ⟨p.lo, p.hi, sampI r p.num, p.way * wayF (foldOf s r k)⟩
    | none => s
theorem ffold_bd (r x : Int) : (ffold r x).natAbs ≤ 2 * x.natAbs + 3 := by
  have := Int.natAbs_ediv_le_natAbs (x - 1) r
  unfold ffold
  split <;> omega
theorem lfold_bd (r x : Int) : (lfold r x).natAbs ≤ 2 * x.natAbs + 3 := by
  have := Int.natAbs_ediv_le_natAbs x r
  unfold lfold
  split <;> omega
theorem folds_bd {s : Sx} {r : Int} (hw : Wy s) (b : Bd 2000 s) : (foldsA s r).1.natAbs ≤ 7 * 2 ^ 2000 ∧ ∀ l, (foldsA s r).2 = some l → l.natAbs ≤ 7 * 2 ^ 2000 := by
  have h1 := b.num
  have big : 100 ≤ 2 ^ 2000 := by decide +kernel
  unfold foldsA
  cases hh : s.hi with
  | none =>
    dsimp only
    have := ffold_bd r (s.num + 1)
    refine ⟨?_, fun l z => nomatch z⟩
    generalize (2 : Nat) ^ 2000 = B at *
    omega
  | some g =>
    have he := end_bd hw b hh
    dsimp only
    have t1 := ffold_bd r (mnI s.num (endOf s g) + 1)
    have t2 := lfold_bd r (mxI s.num (endOf s g) - 1)
    have m1 : (mnI s.num (endOf s g)).natAbs ≤ 3 * 2 ^ 2000 := by
      generalize (2 : Nat) ^ 2000 = B at *
      show (if endOf s g < s.num then endOf s g else s.num).natAbs ≤ _
      split <;> omega
    have m2 : (mxI s.num (endOf s g)).natAbs ≤ 3 * 2 ^ 2000 := by
      generalize (2 : Nat) ^ 2000 = B at *
      show (if endOf s g > s.num then endOf s g else s.num).natAbs ≤ _
      split <;> omega
    refine ⟨?_, fun l z => ?_⟩
    · generalize (2 : Nat) ^ 2000 = B at *
      omega
    · cases z
      generalize (2 : Nat) ^ 2000 = B at *
      omega
theorem fold_room : 7 * 2 ^ 2000 + 2 ^ 2500 < (2 : Nat) ^ 3000 := by decide +kernel
theorem fold_sm {s : Sx} {r k : Int} (hw : Wy s) (b : Bd 2000 s) (hk : k.natAbs ≤ 2 ^ 2500) : Sm (foldOf s r k) := by
  obtain ⟨h1, h2⟩ := folds_bd (r := r) hw b
  have room := fold_room
  show (foldOf s r k).natAbs < 2 ^ 3000
  unfold foldOf
  generalize (2 : Nat) ^ 2500 = C at *
  generalize (2 : Nat) ^ 2000 = B at *
  generalize (2 : Nat) ^ 3000 = D at *
  split
  · omega
  · cases hl : (foldsA s r).2 with
    | none => rw [Option.getD_none]; omega
    | some l => have := h2 l hl; rw [Option.getD_some]; omega
structure MadeOk (s : Sx) (rate : Option Int) (k : Int) : Prop where
  w : Wy s
  b : Bd 2000 s
  up : s.hi = none → s.way = 1
  lt : ∀ g, s.hi = some g → s.lo < g
  r2 : ∀ r, rate = some r → 2 ≤ r ∧ Sm r
  k0 : 0 ≤ k
  k1 : k.natAbs ≤ 2 ^ 2500
  of : ∀ c, countM s rate = some c → k < c
theorem made_cut {s : Sx} {r k : Int} (h : MadeOk s (some r) k) : ∃ p, cutN s (lowF r (foldOf s r k)) (highF r (foldOf s r k)) = some p := by
  have hr := (h.r2 r rfl).1
  have hk := h.k0
  cases hh : s.hi with
  | none =>
    have hw := h.up hh
    refine made_some_open hr hw hh ?_
    unfold foldOf
    rw [if_pos hw]
    omega
  | some g =>
    obtain ⟨l, hl⟩ : ∃ l, (foldsA s r).2 = some l := by unfold foldsA; rw [hh]; exact ⟨_, rfl⟩
    have hc := h.of _ (show countM s (some r) = some (l - (foldsA s r).1 + 1) from by unfold countM; dsimp only; rw [hl])
    refine made_some hr h.w hh (h.lt g hh) ?_ hl ?_
    · unfold foldOf
      rw [hl, Option.getD_some]
      split <;> omega
    · unfold foldOf
      rw [hl, Option.getD_some]
      split <;> omega
def spMade : Sp := fun vs H Q _ => ∃ v s rate k, vs = [v, optV rate, .int k] ∧ Tx H v s ∧ MadeOk s rate k ∧ ∀ v' H', Ex H H' → Tx H' v' (madeS s rate k) → Q v' H'
section
variable {P : Program} {w : World} {K : PySem.W.Frag} {mg : Str → Option Value} {base : Heap}
abbrev s__made_slope : Stmt := top 42
theorem sc__made_slope : FnScope ["slope", "rate", "index", "first", "last", "fold", "low", "high", "least", "greatest", "number", "way"] ["slope", "rate", "index"] (defScope s__made_slope) := ⟨rfl, rfl, rfl, by decide +kernel, rfl, by decide +kernel, by decide +kernel⟩
theorem ok_made {f : Addr} {fd : FuncData} (F : Fun K "_made_slope" "_made_slope" s__made_slope f fd) (h__folds_along : Has P w K mg base 2 "_folds_along" spFolds) (h_fold_ends : Has P w K mg base 1 "fold_ends" spEnds) (h_cut_to_numbers : Has P w K mg base 2 "cut_to_numbers" spCutN)
    (h_behind_sampler : Has P w K mg base 1 "behind_sampler" spSampler) (h_fold_way : Has P w K mg base 1 "fold_way" spWay) : FnOk P w K mg base CX0 3 f fd ["slope", "rate", "index"] spMade := by
  refine F.ok sc__made_slope (fun vs H Q E h => ?_) (fun cdv A outer s H vs Q E hr h => ?_)
  · obtain ⟨v, s, r, k, rfl, _⟩ := h
    rfl
  · obtain ⟨v, s, rate, i, rfl, hv, ok, k⟩ := h
    refine ⟨_, (pss_cons (ps_if (pt_cmpR op_isN1 (pv 1) pe_non (nomark _))
  (pss_one (ps_ret (pv 0)))
  pss_nil)
  (pss_cons (ps_asg (pe_hs h__folds_along hr rfl (pa_cons (pv 0) (pa_cons (pv 1) pa_nil))) (pg_tup (by rfl) (pgs_cons (pg_name (i := 3) sc__made_slope.nd rfl (Or.inl rfl)) (pgs_cons (pg_name (i := 4) sc__made_slope.nd rfl (Or.inl rfl)) pgs_nil))))
  (pss_cons (ps_set (i := 5) sc__made_slope.nd rfl (Or.inl rfl) (pe_ifExp (pt_cmpR op_eq (pe_ix ix_tup (pv 0) pe_int (fun _ _ => rfl)) pe_int (nomark _)) (pe_op op_add (pv 3) (pv 2)) (pe_op op_sub (pv 4) (pv 2))))
  (pss_cons (ps_asg (pe_hs h_fold_ends hr rfl (pa_cons (pv 1) (pa_cons (pv 5) pa_nil))) (pg_tup (by rfl) (pgs_cons (pg_name (i := 6) sc__made_slope.nd rfl (Or.inl rfl)) (pgs_cons (pg_name (i := 7) sc__made_slope.nd rfl (Or.inl rfl)) pgs_nil))))
  (pss_cons (ps_asg (pe_hs h_cut_to_numbers hr rfl (pa_cons (pv 0) (pa_cons (pv 6) (pa_cons (pv 7) pa_nil)))) (pg_tup (by rfl) (pgs_cons (pg_name (i := 8) sc__made_slope.nd rfl (Or.inl rfl)) (pgs_cons (pg_name (i := 9) sc__made_slope.nd rfl (Or.inl rfl)) (pgs_cons (pg_name (i := 10) sc__made_slope.nd rfl (Or.inl rfl)) (pgs_cons (pg_name (i := 11) sc__made_slope.nd rfl (Or.inl rfl)) pgs_nil))))))
  (pss_one (ps_ret (pe_tup (pa_cons (pv 8) (pa_cons (pv 9) (pa_cons (pe_hs h_behind_sampler hr rfl (pa_cons (pv 1) (pa_cons (pv 10) pa_nil))) (pa_cons (pe_op op_mul (pv 11) (pe_hs h_fold_way hr rfl (pa_cons (pv 5) pa_nil))) pa_nil)))))))))))), ?_⟩
    cases rate with
    | none =>
      walk_at "rd"
      refine ite2 (fun _ => ?_) (fun c => absurd (by simp [optV]) c)
      walk_at "rd"
      exact k _ _ (Ex.refl _) hv
    | some r =>
      rw [show optV (some r) = V.int r from rfl]
      obtain ⟨h2, hrs⟩ := ok.r2 r rfl
      walk_at "rd"
      refine ite2 (fun c => absurd c (by simp)) (fun _ => ?_)
      walk_at "rd"
      refine ⟨v, s, r, rfl, hv, ok.w, ok.b, h2, fun p H1 e1 hp => ?_⟩
      walk_at "rd"
      refine go_gtup (.inl (.inl hp)) rfl ?_
      obtain ⟨a, rfl, ha⟩ := hv.ex e1
      walk_at "rd"
      obtain ⟨q, hq⟩ := made_cut ok
      have hmade : madeS s (some r) i = ⟨q.lo, q.hi, sampI r q.num, q.way * wayF (foldOf s r i)⟩ := by unfold madeS; dsimp only; rw [hq]
      rw [hmade] at k
      have hqw : q.way = s.way := cutS_way hq
      refine ite2 (fun c => ?A) (fun c => ?B)
      case' A =>
        have c1 : s.way = 1 := by have := of_decide_eq_true c; injection this
        have fe : (foldsA s r).1 + i = foldOf s r i := by unfold foldOf; rw [if_pos c1]
        walk_at "rd"
        rw [fe]
      case' B =>
        have c1 : ¬ s.way = 1 := fun z => c (by rw [z]; exact decide_eq_true rfl)
        obtain ⟨g, hg⟩ : ∃ g, s.hi = some g := by
          cases hh : s.hi with
          | none => exact absurd (ok.up hh) c1
          | some g => exact ⟨g, rfl⟩
        obtain ⟨l, hl⟩ : ∃ l, (foldsA s r).2 = some l := by unfold foldsA; rw [hg]; exact ⟨_, rfl⟩
        have fe : l - i = foldOf s r i := by unfold foldOf; rw [if_neg c1, hl]; rfl
        rw [hl, show optV (some l) = V.int l from rfl]
        walk_at "rd"
        rw [fe]
      all_goals
        walk_at "rd"
        refine ⟨r, foldOf s r i, rfl, h2, hrs, fold_sm ok.w ok.b ok.k1, fun p2 H2 e2 hp2 => ?_⟩
        walk_at "rd"
        refine go_gtup (.inl (.inl hp2)) rfl ?_
        walk_at "rd"
        refine ⟨_, s, _, _, rfl, ⟨a, rfl, e2 _ _ ha⟩, ok.w, ?_⟩
        rw [hq]
        intro p3 H3 e3 hp3
        have cm : CMul q.way (wayF (foldOf s r i)) := wy_mul (by unfold Wy; rw [hqw]; exact ok.w) _
        walk_at "rd"
        refine go_gtup (.inl (.inl hp3)) rfl ?_
        walk_at "rd"
        refine ⟨r, some q.num, rfl, h2, fun H4 e4 => ?_⟩
        rw [show optV (sampled r (some q.num)) = V.int (sampI r q.num) from rfl]
        walk_at "rd"
        refine ⟨_, rfl, fun H5 e5 => ?_⟩
        walk_at "rd"
        intro pt npt
        exact k _ _ ((((e1.trans e2).trans e3).trans e4).trans (e5.trans (Ex.new npt))) ⟨pt, rfl, upd_same⟩
end
end Kx

set_option Elab.async false
set_option linter.all false
set_option maxRecDepth 100000
set_option maxHeartbeats 4000000

namespace Kx
open PySem PySem.Spec PyProof.Rows L2 HX
open Evl (Ex)
local macro_rules | `(tactic| walk_at "side") => `(tactic| first | assumption | ((try dsimp only); first | assumption | decide +kernel | omega | exact ⟨by decide, by decide⟩ | (left; decide) | (left; omega) | (refine Or.inl ⟨?_, ?_⟩ <;> omega) | (refine Or.inr ⟨?_, ?_⟩ <;> omega)))
local macro_rules | `(tactic| walk_at "heap") => `(tactic| first | assumption | exact upd_same | exact Or.inl (by assumption) | exact Or.inl upd_same)
local macro_rules | `(tactic| walk_at "item") => `(tactic| first | exact rfl | exact atI_nat (j := 0) rfl | exact atI_nat (j := 1) rfl | exact atI_nat (j := 2) rfl | assumption)
local macro_rules | `(tactic| walk_at "rd") => `(tactic| repeat (first
  | ((with_reducible refine' go_var ?hv ?_); (case hv => exact rfl))
  | with_reducible refine' go_c ?_
  | with_reducible refine' go_op ?_
  | with_reducible refine' go_seq ?_
  | with_reducible refine' go_asg ?_
  | with_reducible refine' go_name ?_
  | with_reducible refine' go_cons ?_
  | with_reducible refine' go_nil ?_
  | with_reducible refine' go_cb ?_
  | with_reducible refine' go_call ?_
  | with_reducible refine' go_ifS ?_
  | with_reducible refine' go_test ?_
  | with_reducible refine' go_bl ?_
  | with_reducible refine' go_ret ?_
  | with_reducible refine' go_I0 ?_
  | ((with_reducible refine' go_I ?cc ?_); (case cc => walk_at "side"))
  | ((with_reducible refine' go_ixL ?hh ?hk ?_); (case hh => walk_at "heap"); (case hk => walk_at "item"))
  | ((with_reducible refine' go_ixT ?hh ?hk ?_); (case hh => walk_at "heap"); (case hk => walk_at "item"))
  | ((with_reducible refine' go_lenL ?hh ?_); (case hh => walk_at "heap"))
  | ((with_reducible refine' go_lenT ?hh ?_); (case hh => walk_at "heap"))
  | ((with_reducible refine' go_setL ?hh ?hk ?_); (case hh => walk_at "heap"); (case hk => walk_at "item"))
  | with_reducible refine' go_abs ?_
  | with_reducible refine' go_max ?_
  | with_reducible refine' go_min ?_
  | with_reducible refine' go_int ?_
  | with_reducible refine' go_intB ?_
  | (with_reducible refine' go_eq rfl ?_)
  | (with_reducible refine' go_ne rfl ?_)
  | with_reducible refine' go_isN ?_
  | with_reducible refine' go_notN ?_
  | with_reducible refine' go_if ?_
  | with_reducible refine' go_sub ?_
  | with_reducible refine' go_par ?_
  | with_reducible refine' go_sl ?_
  | with_reducible refine' go_part ?_
  | with_reducible refine' go_pint ?_
  | with_reducible refine' go_nopart ?_
  | ((with_reducible refine' go_lenL ?hh ?_); (case hh => walk_at "heap"))
  | ((with_reducible refine' go_lenT ?hh ?_); (case hh => walk_at "heap"))
  | ((with_reducible refine' go_lenS ?hh ?_); (case hh => assumption))
  | with_reducible refine' go_gcons ?_
  | with_reducible refine' go_gnil ?_
  | with_reducible refine' go_kw ?_
  | with_reducible refine' go_par2 ?_
  | with_reducible refine' go_next ?_
  | with_reducible refine' go_drop ?_
  | with_reducible refine' go_and ?_
  | with_reducible refine' go_or ?_
  | with_reducible refine' go_not ?_
  | with_reducible refine' go_B ?_
  | with_reducible refine' go_andV ?_
  | with_reducible refine' go_orV ?_
  | with_reducible refine' go_notV ?_
  | with_reducible refine' go_chain ?_
  | with_reducible refine' go_un ?_
  | with_reducible refine' go_U ?_
  | with_reducible refine' go_bm ?_
  | with_reducible refine' go_tup ?_
  | with_reducible refine' go_lst ?_
  | with_reducible refine' go_forR1 ?_
  | with_reducible refine' go_forR2 ?_
  | with_reducible refine' go_forL ?_
  | with_reducible refine' go_forT ?_
  | with_reducible refine' go_forE ?_
  | with_reducible refine' go_lcR1 ?_
  | with_reducible refine' go_lcL ?_
  | with_reducible refine' go_lcT ?_
  | ((with_reducible refine' go_tyL ?hh ?_); (case hh => walk_at "heap"))
  | ((with_reducible refine' go_new ?hz ?_); (case hz => exact Nat.le_of_ble_eq_true rfl))
  | (with_reducible refine' ⟨_, rfl, ?_⟩)
  ))
--MACEND
/-! ### the slope with an index -/
def nthS (rate : Option Int) : List Sx → Int → Option Sx
  | [], _ => none
  | s :: ss, k => match countM s rate with
    | none => some (madeS s rate k)
    | some c => if k < c then some (madeS s rate k) else nthS rate ss (k - c)
/-- a stretch that is a slope: two signals or more -/
structure SlopeOk (s : Sx) : Prop where
  w : Wy s
  b : Bd 2000 s
  up : s.hi = none → s.way = 1
  lt : ∀ g, s.hi = some g → s.lo < g
def spNth : Sp := fun vs H Q _ => ∃ p rate k ss, vs = [.ref p, optV rate, .int k] ∧ Lx H p ss ∧ (∀ s ∈ ss, SlopeOk s) ∧ (∀ r, rate = some r → 2 ≤ r ∧ Sm r) ∧ 0 ≤ k ∧ k.natAbs ≤ 2 ^ 2500 ∧
  (nthS rate ss k = none → ∀ H', Ex H H' → Q .non H') ∧ ∀ t, nthS rate ss k = some t → ∀ v' H', Ex H H' → Tx H' v' t → Q v' H'
theorem fold_next {r z y : Int} (hr : 2 ≤ r) (h : z ≤ y) : ffold r (z + 1) ≤ lfold r y + 1 := by
  have q := Int.ediv_le_ediv (show (0 : Int) < r by omega) h
  unfold ffold lfold
  rw [show z + 1 - 1 = z from by omega]
  by_cases e : z / r = y / r
  · have m1 := Int.emod_add_mul_ediv z r
    have m2 := Int.emod_add_mul_ediv y r
    rw [e] at m1 ⊢
    split <;> split <;> omega
  · split <;> split <;> omega
theorem count_nn {s : Sx} {rate : Option Int} {c : Int} (ok : SlopeOk s) (h2 : ∀ r, rate = some r → 2 ≤ r ∧ Sm r) (h : countM s rate = some c) : 0 ≤ c := by
  cases rate with
  | none => cases h; decide
  | some r =>
    have hr := (h2 r rfl).1
    unfold countM at h
    dsimp only at h
    cases hh : s.hi with
    | none => rw [show (foldsA s r).2 = none from by unfold foldsA; rw [hh]] at h; cases h
    | some g =>
      have lt := ok.lt g hh
      have e1 : (foldsA s r).1 = ffold r (mnI s.num (endOf s g) + 1) := by unfold foldsA; rw [hh]
      have e2 : (foldsA s r).2 = some (lfold r (mxI s.num (endOf s g) - 1)) := by unfold foldsA; rw [hh]
      rw [e2, e1] at h
      cases h
      have := fold_next (r := r) (z := mnI s.num (endOf s g)) (y := mxI s.num (endOf s g) - 1) hr (by
        show (if endOf s g < s.num then endOf s g else s.num) ≤ (if endOf s g > s.num then endOf s g else s.num) - 1
        unfold endOf
        rcases ok.w with w | w <;> rw [w] <;> split <;> split <;> omega)
      omega
theorem nth_drop (rate : Option Int) {ss : List Sx} {i : Nat} {s : Sx} {m : Int} (h : ss[i]? = some s) : nthS rate (ss.drop i) m = match countM s rate with
    | none => some (madeS s rate m)
    | some c => if m < c then some (madeS s rate m) else nthS rate (ss.drop (i + 1)) (m - c) := by
  obtain ⟨hlt, e⟩ := List.getElem?_eq_some_iff.mp h
  rw [List.drop_eq_getElem_cons hlt, e]
  rfl
section
variable {P : Program} {w : World} {K : PySem.W.Frag} {mg : Str → Option Value} {base : Heap}
abbrev s__nth_slope_of : Stmt := top 40
theorem sc__nth_slope_of : FnScope ["mixed", "rate", "index", "left", "slope", "many"] ["mixed", "rate", "index"] (defScope s__nth_slope_of) := ⟨rfl, rfl, rfl, by decide +kernel, rfl, by decide +kernel, by decide +kernel⟩
theorem ok_nth {f : Addr} {fd : FuncData} (F : Fun K "_nth_slope_of" "_nth_slope_of" s__nth_slope_of f fd) (h__count_made : Has P w K mg base 3 "_count_made" spCountM) (h__made_slope : Has P w K mg base 3 "_made_slope" spMade) : FnOk P w K mg base CX0 4 f fd ["mixed", "rate", "index"] spNth := by
  refine F.ok sc__nth_slope_of (fun vs H Q E h => ?_) (fun cdv A outer s H vs Q E hr h => ?_)
  · obtain ⟨p, r, k, ss, rfl, _⟩ := h
    rfl
  · obtain ⟨p, rate, i, ss, rfl, ⟨xs, hp, hX⟩, hs, h2, i0, i1, k0, k1⟩ := h
    refine ⟨_, (pss_cons (ps_set (i := 3) sc__nth_slope_of.nd rfl (Or.inl rfl) (pv 2))
  (pss_cons (ps_for PassesOwn.never rfl (pi_list (pv 0)) (pg_name (i := 4) sc__nth_slope_of.nd rfl (Or.inl rfl))
  (pss_cons (ps_set (i := 5) sc__nth_slope_of.nd rfl (Or.inl rfl) (pe_hs h__count_made hr rfl (pa_cons (pv 4) (pa_cons (pv 1) pa_nil))))
  (pss_cons (ps_if (PW.pt (pw_or (pt_cmpR op_isN1 (pv 5) pe_non (nomark _)) (pw_or1 (pt_cmpR op_lt (pv 3) (pv 5) (nomark _)))))
  (pss_one (ps_ret (pe_hs h__made_slope hr rfl (pa_cons (pv 4) (pa_cons (pv 1) (pa_cons (pv 3) pa_nil))))))
  pss_nil)
  (pss_one (ps_aug (i := 3) sc__nth_slope_of.nd rfl (.inl rfl) (pv 5) ip_sub)))))
  (pss_one (ps_ret pe_non)))), ?_⟩
    walk_at "rd"
    refine ⟨⟨xs, .inl (.inl hp)⟩, ?_⟩
    refine run_forL xs (fun n σ G => ∃ (m : Int) (v4 v5 : Option V), σ = [some (.ref p), some (optV rate), some (.int i), some (.int m), v4, v5] ∧ Ex H G ∧ 0 ≤ m ∧ m.natAbs ≤ 2 ^ 2500 ∧ nthS rate (ss.drop n) m = nthS rate ss i) ?_ ?_ ?_ ?_
    · exact ⟨i, _, _, rfl, Ex.refl _, i0, i1, by rw [List.drop_zero]⟩
    · rintro n σ G _ ⟨_, _, _, rfl, e, _⟩
      exact .inl (.inl (e _ _ hp))
    · rintro n v σ G hi ⟨m, v4, v5, rfl, e, m0, m1, hm⟩
      obtain ⟨sx, hsx, hv⟩ := hX.get n v hi
      have ok := hs sx (List.mem_of_getElem? hsx)
      rw [nth_drop rate hsx] at hm
      walk_at "rd"
      refine ⟨v, sx, rate, rfl, hv.ex e, ok.w, ok.b, fun r hr => (h2 r hr).1, fun G1 e1 => ?_⟩
      have made : ∀ (of : ∀ c, countM sx rate = some c → m < c), MadeOk sx rate m := fun of => ⟨ok.w, ok.b, ok.up, ok.lt, h2, m0, m1, of⟩
      cases hc : countM sx rate with
      | none =>
        rw [hc] at hm
        dsimp only at hm
        walk_at "rd"
        refine iteT (iteT ?_)
        walk_at "rd"
        refine ⟨v, sx, rate, m, rfl, (hv.ex e).ex e1, made (fun c z => by rw [hc] at z; cases z), fun v' G2 e2 ht => ?_⟩
        exact k1 _ hm.symm v' G2 ((e.trans e1).trans e2) ht
      | some c =>
        rw [hc] at hm
        dsimp only at hm
        rw [show optV (some c) = V.int c from rfl]
        have cn := count_nn ok h2 hc
        walk_at "rd"
        refine iteF ?_
        walk_at "rd"
        refine ite2 (fun cc => ?_) (fun cc => ?_)
        · have lt : m < c := of_decide_eq_true cc
          rw [if_pos lt] at hm
          walk_at "rd"
          refine ⟨v, sx, rate, m, rfl, (hv.ex e).ex e1, made (fun c' z => by rw [hc] at z; cases z; exact lt), fun v' G2 e2 ht => ?_⟩
          exact k1 _ hm.symm v' G2 ((e.trans e1).trans e2) ht
        · have lt : ¬ m < c := fun z => cc (decide_eq_true z)
          rw [if_neg lt] at hm
          refine ⟨.int m, rfl, ?_⟩
          walk_at "rd"
          refine ⟨_, _, rfl, rfl, ?_⟩
          refine ⟨m - c, _, _, rfl, e.trans e1, by omega, ?_, hm⟩
          generalize (2 : Nat) ^ 2500 = B at *
          omega
    · rintro σ G ⟨m, v4, v5, rfl, e, m0, m1, hm⟩
      have lenx : xs.length = ss.length := hX.len
      rw [lenx, List.drop_length] at hm
      walk_at "rd"
      exact k0 hm.symm _ e
end
end Kx

set_option Elab.async false
set_option linter.all false
set_option maxRecDepth 100000
set_option maxHeartbeats 4000000
namespace Kx
open PySem PySem.Spec PyProof.Rows L2 HX
/-! ### how large the stretches of a receiver become; which of them are slopes -/
/-- numbers within B; open only where the way is up; the ends in order -/
structure In (B : Nat) (s : Sx) : Prop where
  w : Wy s
  lo : s.lo.natAbs ≤ B
  num : s.num.natAbs ≤ B
  hi : ∀ g, s.hi = some g → g.natAbs ≤ B ∧ s.lo ≤ g
  up : s.hi = none → s.way = 1
theorem In.mono {B C : Nat} {s : Sx} (h : B ≤ C) (k : In B s) : In C s := ⟨k.w, Nat.le_trans k.lo h, Nat.le_trans k.num h, fun g e => ⟨Nat.le_trans (k.hi g e).1 h, (k.hi g e).2⟩, k.up⟩
theorem sig_in {B : Nat} {s : Sx} {c : Int} (k : In B s) (hc : c.natAbs ≤ B) : (sigOf s c).natAbs ≤ 3 * B := by
  have h1 := k.lo
  have h2 := k.num
  unfold sigOf
  rcases k.w with w | w <;> rw [w] <;> omega
theorem abs_in {B : Nat} {a c : Int} (ha : a.natAbs ≤ B) (hc : c.natAbs ≤ B) : (absI (a - c)).natAbs ≤ 5 * B := by
  unfold absI
  split <;> omega
theorem mix_in {B : Nat} {s t : Sx} {c : Int} (k : In B s) (hc : c.natAbs ≤ B) (h : t ∈ mixS c s) : In (5 * B) t := by
  have hs := sig_in k hc
  have ha := abs_in k.num hc
  have hl := k.lo
  unfold mixS at h
  split at h
  · rw [List.mem_singleton.mp h]
    exact ⟨.inl rfl, by dsimp only; omega, ha, fun g e => ⟨by have := (k.hi g e).1; omega, (k.hi g e).2⟩, fun _ => rfl⟩
  · rename_i h0
    split at h
    · rename_i g hg
      have hb := (k.hi g hg).1
      have hb2 := (k.hi g hg).2
      split at h
      · rw [List.mem_singleton.mp h]
        exact ⟨.inr rfl, by dsimp only; omega, ha, fun g' e => (by cases e; exact ⟨by omega, hb2⟩), fun z => nomatch z⟩
      · rcases List.mem_cons.mp h with rfl | h
        · exact ⟨.inr rfl, by dsimp only; omega, ha, fun g' e => (by cases e; exact ⟨by omega, by dsimp only; omega⟩), fun z => nomatch z⟩
        · rw [List.mem_singleton.mp h]
          exact ⟨.inl rfl, by dsimp only; omega, by dsimp only; omega, fun g' e => (by cases e; exact ⟨by omega, by dsimp only; omega⟩), fun _ => rfl⟩
    · rcases List.mem_cons.mp h with rfl | h
      · exact ⟨.inr rfl, by dsimp only; omega, ha, fun g' e => (by cases e; exact ⟨by omega, by dsimp only; omega⟩), fun z => nomatch z⟩
      · rw [List.mem_singleton.mp h]
        exact ⟨.inl rfl, by dsimp only; omega, by dsimp only; omega, fun g' e => (nomatch e), fun _ => rfl⟩
theorem cut_in {B : Nat} {s p : Sx} {low high : Int} (k : In B s) (h1 : low.natAbs ≤ B) (h2 : high.natAbs ≤ B) (h : cutN s low high = some p) : In (5 * B) p := by
  have s1 := sig_in k h1
  have s2 := sig_in k h2
  have hl := k.lo
  have hn := k.num
  unfold cutN at h
  have m1 : (mnI (sigOf s low) (sigOf s high)).natAbs ≤ 3 * B := by
    show (if sigOf s high < sigOf s low then sigOf s high else sigOf s low).natAbs ≤ _
    split <;> omega
  have m2 : (mxI (sigOf s low) (sigOf s high)).natAbs ≤ 3 * B := by
    show (if sigOf s high > sigOf s low then sigOf s high else sigOf s low).natAbs ≤ _
    split <;> omega
  generalize mnI (sigOf s low) (sigOf s high) = a at *
  generalize mxI (sigOf s low) (sigOf s high) = b at *
  have m3 : (mxI s.lo a).natAbs ≤ 3 * B := by
    show (if a > s.lo then a else s.lo).natAbs ≤ _
    split <;> omega
  have m4 : s.lo ≤ mxI s.lo a := by
    show s.lo ≤ (if a > s.lo then a else s.lo)
    split <;> omega
  unfold cutS at h
  generalize mxI s.lo a = c at *
  have hnum : (s.num + s.way * (c - s.lo)).natAbs ≤ 5 * B := by
    rcases k.w with w | w <;> rw [w] <;> omega
  cases hh : s.hi with
  | none =>
    rw [hh, show topOf none (some b) = some b from rfl] at h
    dsimp only at h
    split at h
    · cases h
    · rename_i hc
      cases h
      exact ⟨k.w, by dsimp only; omega, hnum, fun g e => (by cases e; exact ⟨by omega, by dsimp only; omega⟩), fun z => nomatch z⟩
  | some g =>
    have hg := (k.hi g hh).1
    obtain ⟨l, e, hl⟩ : ∃ l, topOf (some g) (some b) = some l ∧ l.natAbs ≤ 3 * B := by
      unfold topOf
      dsimp only
      split
      · exact ⟨b, rfl, m2⟩
      · exact ⟨g, rfl, by omega⟩
    rw [hh, e] at h
    dsimp only at h
    split at h
    · cases h
    · rename_i hc
      cases h
      exact ⟨k.w, by dsimp only; omega, hnum, fun g' e => (by cases e; exact ⟨by omega, by dsimp only; omega⟩), fun z => nomatch z⟩
theorem mixer_in {B : Nat} {ss : List Sx} {c : Int} (k : ∀ s ∈ ss, In B s) (hc : c.natAbs ≤ B) : ∀ t ∈ behindMixer c ss, In (5 * B) t := fun t h => by
  obtain ⟨s, h1, h2⟩ := List.mem_flatMap.mp h
  exact mix_in (k s h1) hc h2
theorem pass_in {B : Nat} {low high : Int} {ss : List Sx} (k : ∀ s ∈ ss, In B s) (h1 : low.natAbs ≤ B) (h2 : high.natAbs ≤ B) : ∀ t ∈ behindPass low high ss, In (5 * B) t := by
  have key : ∀ (ss acc : List Sx), (∀ s ∈ ss, In B s) → (∀ t ∈ acc, In (5 * B) t) → ∀ t ∈ ss.foldl (passStep low high) acc, In (5 * B) t := by
    intro ss
    induction ss with
    | nil => intro acc _ h; exact h
    | cons s ss ih =>
      intro acc a1 a2
      refine ih _ (fun x hx => a1 x (List.mem_cons_of_mem _ hx)) fun t ht => ?_
      unfold passStep at ht
      split at ht
      · exact a2 t ht
      · rename_i p hp
        split at ht
        · exact a2 t ht
        · rcases List.mem_append.mp ht with ht | ht
          · exact a2 t ht
          · rw [List.mem_singleton.mp ht]
            exact cut_in (a1 s List.mem_cons_self) h1 h2 hp
  exact key ss [] k fun _ h => nomatch h
/-- the numbers of a stage, with the dial, within B -/
def Stg.near (dial : Int) (B : Nat) : Stg → Prop
  | .mix lo => lo.natAbs ≤ B
  | .dial a => (dial + a).natAbs ≤ B
  | .pass a b => a.natAbs ≤ B ∧ b.natAbs ≤ B
theorem Stg.near.mono {dial : Int} {B C : Nat} (h : B ≤ C) {s : Stg} (k : s.near dial B) : s.near dial C := by
  cases s with
  | mix lo => exact Nat.le_trans k h
  | dial a => exact Nat.le_trans k h
  | pass a b => exact ⟨Nat.le_trans k.1 h, Nat.le_trans k.2 h⟩
theorem str_in {dial : Int} {B : Nat} : ∀ (ss : List Stg), (∀ s ∈ ss, s.near dial B) → ∀ (acc : List Sx) (C : Nat), B ≤ C → (∀ t ∈ acc, In C t) → ∀ t ∈ ss.foldl (strStep dial) acc, In (5 ^ ss.length * C) t
  | [], _, acc, C, _, h => fun t ht => by
    rw [List.length_nil, Nat.pow_zero, Nat.one_mul]; exact h t ht
  | s :: ss, hn, acc, C, hB, h => fun t ht => by
    have hs := (hn s List.mem_cons_self).mono hB
    have step : ∀ t ∈ strStep dial acc s, In (5 * C) t := by
      cases s with
      | mix lo => exact mixer_in h hs
      | dial a => exact mixer_in h hs
      | pass a b => exact pass_in h hs.1 hs.2
    have := str_in ss (fun x hx => hn x (List.mem_cons_of_mem _ hx)) (strStep dial acc s) (5 * C) (by omega) step t ht
    rw [List.length_cons, Nat.pow_succ, Nat.mul_assoc]
    exact this
theorem strAt_in {dial : Int} {B : Nat} {ss : List Stg} (h : ∀ s ∈ ss, s.near dial B) (h8 : ss.length ≤ 8) : ∀ t ∈ strAt dial ss, In (390625 * B) t := fun t ht => by
  have := str_in ss h [⟨0, none, 0, 1⟩] B (Nat.le_refl _) (fun t ht => by
    rw [List.mem_singleton.mp ht]
    exact ⟨.inl rfl, Nat.zero_le _, Nat.zero_le _, fun g e => (nomatch e), fun _ => rfl⟩) t ht
  refine this.mono (Nat.mul_le_mul_right _ ?_)
  calc 5 ^ ss.length ≤ 5 ^ 8 := Nat.pow_le_pow_right (by decide) h8
    _ = 390625 := by decide
/-- the slopes of a receiver without its sampler -/
def slopesOf (dial : Int) (ss : List Stg) : List Sx := (strAt dial ss).filter fun s => !decide (s.hi = some s.lo)
theorem slopes_ok {dial : Int} {B : Nat} {ss : List Stg} (h : ∀ s ∈ ss, s.near dial B) (h8 : ss.length ≤ 8) (hB : 390625 * B < 2 ^ 1990) : ∀ t ∈ slopesOf dial ss, SlopeOk t ∧ Bd 1990 t := fun t ht => by
  obtain ⟨h1, h2⟩ := List.mem_filter.mp ht
  have k := strAt_in h h8 t h1
  have hne : ¬ t.hi = some t.lo := fun z => by rw [decide_eq_true z] at h2; cases h2
  have b : Bd 1990 t := ⟨Nat.lt_of_le_of_lt k.lo hB, Nat.lt_of_le_of_lt k.num hB, fun g e => Nat.lt_of_le_of_lt (k.hi g e).1 hB⟩
  have up : (2 : Nat) ^ 1990 ≤ 2 ^ 2000 := Nat.pow_le_pow_right (by decide) (by decide)
  refine ⟨⟨k.w, ⟨Nat.lt_of_lt_of_le b.lo up, Nat.lt_of_lt_of_le b.num up, fun g e => Nat.lt_of_lt_of_le (b.hi g e) up⟩, k.up, fun g e => ?_⟩, b⟩
  have := (k.hi g e).2
  have : t.lo ≠ g := fun z => hne (by rw [e, z])
  omega
end Kx

set_option Elab.async false
set_option linter.all false
set_option maxRecDepth 100000
set_option maxHeartbeats 4000000

namespace Kx
open PySem PySem.Spec PyProof.Rows L2 HX
open Evl (Ex)
local macro_rules | `(tactic| walk_at "side") => `(tactic| first | assumption | ((try dsimp only); first | assumption | decide +kernel | omega | exact ⟨by decide, by decide⟩ | (left; decide) | (left; omega) | (refine Or.inl ⟨?_, ?_⟩ <;> omega) | (refine Or.inr ⟨?_, ?_⟩ <;> omega)))
local macro_rules | `(tactic| walk_at "heap") => `(tactic| first | assumption | exact upd_same | exact Or.inl (by assumption) | exact Or.inl upd_same)
local macro_rules | `(tactic| walk_at "item") => `(tactic| first | exact rfl | exact atI_nat (j := 0) rfl | exact atI_nat (j := 1) rfl | exact atI_nat (j := 2) rfl | assumption)
local macro_rules | `(tactic| walk_at "rd") => `(tactic| repeat (first
  | ((with_reducible refine' go_var ?hv ?_); (case hv => exact rfl))
  | with_reducible refine' go_c ?_
  | with_reducible refine' go_op ?_
  | with_reducible refine' go_seq ?_
  | with_reducible refine' go_asg ?_
  | with_reducible refine' go_name ?_
  | with_reducible refine' go_cons ?_
  | with_reducible refine' go_nil ?_
  | with_reducible refine' go_cb ?_
  | with_reducible refine' go_call ?_
  | with_reducible refine' go_ifS ?_
  | with_reducible refine' go_test ?_
  | with_reducible refine' go_bl ?_
  | with_reducible refine' go_ret ?_
  | with_reducible refine' go_I0 ?_
  | ((with_reducible refine' go_I ?cc ?_); (case cc => walk_at "side"))
  | ((with_reducible refine' go_ixL ?hh ?hk ?_); (case hh => walk_at "heap"); (case hk => walk_at "item"))
  | ((with_reducible refine' go_ixT ?hh ?hk ?_); (case hh => walk_at "heap"); (case hk => walk_at "item"))
  | ((with_reducible refine' go_lenL ?hh ?_); (case hh => walk_at "heap"))
  | ((with_reducible refine' go_lenT ?hh ?_); (case hh => walk_at "heap"))
  | ((with_reducible refine' go_setL ?hh ?hk ?_); (case hh => walk_at "heap"); (case hk => walk_at "item"))
  | with_reducible refine' go_abs ?_
  | with_reducible refine' go_max ?_
  | with_reducible refine' go_min ?_
  | with_reducible refine' go_int ?_
  | with_reducible refine' go_intB ?_
  | (with_reducible refine' go_eq rfl ?_)
  | (with_reducible refine' go_ne rfl ?_)
  | with_reducible refine' go_isN ?_
  | with_reducible refine' go_notN ?_
  | with_reducible refine' go_if ?_
  | with_reducible refine' go_sub ?_
  | with_reducible refine' go_par ?_
  | with_reducible refine' go_sl ?_
  | with_reducible refine' go_part ?_
  | with_reducible refine' go_pint ?_
  | with_reducible refine' go_nopart ?_
  | ((with_reducible refine' go_lenL ?hh ?_); (case hh => walk_at "heap"))
  | ((with_reducible refine' go_lenT ?hh ?_); (case hh => walk_at "heap"))
  | ((with_reducible refine' go_lenS ?hh ?_); (case hh => assumption))
  | with_reducible refine' go_gcons ?_
  | with_reducible refine' go_gnil ?_
  | with_reducible refine' go_kw ?_
  | with_reducible refine' go_par2 ?_
  | with_reducible refine' go_next ?_
  | with_reducible refine' go_drop ?_
  | with_reducible refine' go_and ?_
  | with_reducible refine' go_or ?_
  | with_reducible refine' go_not ?_
  | with_reducible refine' go_B ?_
  | with_reducible refine' go_andV ?_
  | with_reducible refine' go_orV ?_
  | with_reducible refine' go_notV ?_
  | with_reducible refine' go_chain ?_
  | with_reducible refine' go_un ?_
  | with_reducible refine' go_U ?_
  | with_reducible refine' go_bm ?_
  | with_reducible refine' go_tup ?_
  | with_reducible refine' go_lst ?_
  | with_reducible refine' go_forR1 ?_
  | with_reducible refine' go_forR2 ?_
  | with_reducible refine' go_forL ?_
  | with_reducible refine' go_forT ?_
  | with_reducible refine' go_forE ?_
  | with_reducible refine' go_lcR1 ?_
  | with_reducible refine' go_lcL ?_
  | with_reducible refine' go_lcT ?_
  | ((with_reducible refine' go_tyL ?hh ?_); (case hh => walk_at "heap"))
  | ((with_reducible refine' go_new ?hz ?_); (case hz => exact Nat.le_of_ble_eq_true rfl))
  | (with_reducible refine' ⟨_, rfl, ?_⟩)
  ))
--MACEND
theorem stage_stg {d : PyData} (h : isStage d = true) : ∃ s : Stg, d = s.d := by
  unfold isStage at h
  split at h
  · rename_i k d2 ds
    split at h
    · rename_i hk
      subst hk
      rw [Bool.and_eq_true] at h
      obtain ⟨i, rfl, _⟩ := nat_int h.2
      have : ds = [] := by simpa using h.1
      subst this
      exact ⟨.mix i, rfl⟩
    · split at h
      · rename_i hk
        subst hk
        rw [Bool.and_eq_true] at h
        have : ds = [] := by simpa using h.1
        subst this
        cases d2 <;> simp [isInt] at h
        exact ⟨.dial _, rfl⟩
      · rw [Bool.and_eq_true, decide_eq_true_eq] at h
        obtain ⟨rfl, h⟩ := h
        unfold isBand at h
        split at h
        · rename_i a b e
          cases e
          exact ⟨.pass a b, rfl⟩
        · cases h
  · cases h
theorem flt_stgs : ∀ {sd : List PyData} {i : Nat} {has : Bool}, fltS sd i has = none → ∃ ss : List Stg, sd = ss.map Stg.d
  | [], _, _, _ => ⟨[], rfl⟩
  | d :: sd, i, has, h => by
    have h' : (if isStage d = true then (if isDialD d = true then (if has = true then some i else fltS sd (i + 1) true) else fltS sd (i + 1) has) else some i) = none := h
    split at h'
    · rename_i hs
      obtain ⟨s, rfl⟩ := stage_stg hs
      have rest : ∃ has2, fltS sd (i + 1) has2 = none := by
        split at h'
        · split at h'
          · cases h'
          · exact ⟨_, h'⟩
        · exact ⟨_, h'⟩
      obtain ⟨_, h2⟩ := rest
      obtain ⟨ss, rfl⟩ := flt_stgs h2
      exact ⟨s :: ss, rfl⟩
    · cases h'
theorem fault_none {d : PyData} (h : fault d = none) : ∃ (ss : List Stg) (rate : Option Int), d = radD ss rate ∧ ss ≠ [] ∧ ss.length ≤ 8 ∧ ∀ r, rate = some r → 2 ≤ r := by
  cases hf : isFrame d with
  | false => rw [frame_no hf] at h; cases h
  | true =>
    obtain ⟨sd, r, rfl, hfl⟩ := frame_yes hf
    rw [hfl] at h
    cases hs : fltS sd 0 false with
    | some i => rw [hs] at h; cases h
    | none =>
      rw [hs] at h
      obtain ⟨ss, rfl⟩ := flt_stgs hs
      have hr : isRate r = true := by
        cases q : isRate r with
        | true => rfl
        | false => rw [q] at h; cases h
      have hl : 1 ≤ (ss.map Stg.d).length ∧ (ss.map Stg.d).length ≤ 8 := by
        simpa [isFrame] using hf
      rw [List.length_map] at hl
      have ne : ss ≠ [] := fun z => by rw [z] at hl; simp at hl
      cases r <;> simp [isRate] at hr
      · exact ⟨ss, none, rfl, ne, hl.2, fun _ z => nomatch z⟩
      · rename_i i
        exact ⟨ss, some i, rfl, ne, hl.2, fun r z => by cases z; exact hr⟩
theorem go_checkE {f : PyData → Bool} {C : Addr} {x : V} {d : PyData} {H : Hp} {Q : VK} {E : XK} (h : Dq H x d) (k1 : f d = true → ∀ H', Ex H H' → Q .non H') (k2 : f d = false → ∀ H', Ex H H' → E (.ref C) none H') : spCheckE f C ([x]) H Q E := ⟨x, d, rfl, h, k1, k2⟩

/-- what a call with a receiver and a dial tells: the first wrong one's error, or all is well -/
structure Tell2 (CR CD : Addr) (dx dy : PyData) (H : Hp) (E : XK) (good : Prop) : Prop where
  r : ∀ f, fault dx = some f → ∀ H' dd, Ex H H' → H dd = none → H' dd = some (.xd [("index", fltV f)]) → E (.ref CR) (some dd) H'
  d : fault dx = none → isInt dy = false → ∀ H', Ex H H' → E (.ref CD) none H'
  g : fault dx = none → isInt dy = true → good
def spMixedE (CR CD : Addr) : Sp := fun vs H Q E => ∃ x y dx dy, vs = [x, y] ∧ Dq H x dx ∧ Dq H y dy ∧
  Tell2 CR CD dx dy H E (∀ ss rate dial, dx = radD ss rate → dy = .int dial → ss.length ≤ 8 → ∀ q H', H q = none → Ex H H' → Lx H' q (slopesOf dial ss) → Q (.ref q) H')
section
variable {P : Program} {w : World} {K : PySem.W.Frag} {mg : Str → Option Value} {base : Heap} {CR CD : Addr}
abbrev s_mixed_slopes : Stmt := top 35
theorem sc_mixed_slopes : FnScope ["receiver", "dial", "stretch"] ["receiver", "dial"] (defScope s_mixed_slopes) := ⟨rfl, rfl, rfl, by decide +kernel, rfl, by decide +kernel, by decide +kernel⟩
theorem ok_mixed {f : Addr} {fd : FuncData} (F : Fun K "mixed_slopes" "mixed_slopes" s_mixed_slopes f fd) (h_check_receiver : HasX P w K mg base 5 "check_receiver" (spRecvE CR)) (h_check_dial : HasX P w K mg base 2 "check_dial" (spCheckE isInt CD))
    (h_stretches_at : Has P w K mg base 4 "stretches_at" spStr) : FnOk P w K mg base (L2N.CX P w) 6 f fd ["receiver", "dial"] (spMixedE CR CD) := by
  refine okXN F sc_mixed_slopes (fun vs H Q E h => ?_) (fun cdv A outer s H vs Q E hr h => ?_)
  · obtain ⟨x, y, dx, dy, rfl, _⟩ := h
    rfl
  · obtain ⟨x, y, dx, dy, rfl, hx, hy, T⟩ := h
    refine ⟨_, (pss_cons (ps_expr (pe_hsS h_check_receiver hr rfl (fun σ => L2N.passAt (L2N.takes_of rfl rfl rfl rfl) σ) (pa_cons (pv 0) pa_nil)))
  (pss_cons (ps_expr (pe_hsS h_check_dial hr rfl (fun σ => L2N.passAt (L2N.takes_of rfl rfl rfl rfl) σ) (pa_cons (pv 1) pa_nil)))
  (pss_one (ps_ret (pe_lc (own := [("stretch", 2)]) (g := gName 2) (by rfl) (sc_mixed_slopes).nd (pi_list (pe_hs h_stretches_at hr rfl (pa_cons (pe_ix ix_tup (pv 0) pe_int (fun _ _ => rfl)) (pa_cons (pv 1) pa_nil)))) (blkOk_by (own := [("stretch", 2)]) (N := ["receiver", "dial", "stretch"]) (sc := defScope s_mixed_slopes) (by decide +kernel)) (fun _ _ _ _ _ => pg_name (i := 2) (sc_mixed_slopes).nd rfl (Or.inl rfl)) (fun _ _ _ _ _ => (pts_one (pt_cmpR op_ne (pe_ix (show IxR _ (rIxT K) from ix_tup) (pv 2) pe_int (fun _ _ => rfl)) (pe_ix (show IxR _ (rIxT K) from ix_tup) (pv 2) pe_int (fun _ _ => rfl)) (nomark _)))) (fun _ _ _ _ _ => (pv 2))))))), ?_⟩
    walk_at "rd"
    refine go_callS ?_
    walk_at "rd"
    refine ⟨x, dx, rfl, hx, fun h0 H1 e1 => ?_, fun f h0 H' dd e n q => T.r f h0 H' dd e n q⟩
    walk_at "rd"
    refine go_callS ?_
    walk_at "rd"
    refine go_checkE (hy.ex e1) (fun h1 H2 e2 => ?_) fun h1 H2 e2 => T.d h0 h1 _ (e1.trans e2)
    have e := e1.trans e2
    have good := T.g h0 h1
    obtain ⟨ss, rate, rfl, ne, l8, hrt⟩ := fault_none h0
    obtain ⟨dial, rfl⟩ : ∃ i, dy = .int i := by cases dy <;> simp [isInt] at h1; exact ⟨_, rfl⟩
    cases hy
    have good := good ss rate dial rfl rfl l8
    obtain ⟨a, xs, rfl, ha, hda⟩ := Dq.tupleAt (ds := [.list (ss.map Stg.d), rateD rate]) (hx.ex e)
    obtain ⟨v1, v2, d1, d2, rfl, ed, hv1, hv2⟩ := dqa2 hda rfl
    obtain ⟨rfl, rfl⟩ : PyData.list (ss.map Stg.d) = d1 ∧ rateD rate = d2 := by simpa using ed
    walk_at "rd"
    refine ⟨v1, ss, dial, rfl, hv1, l8, fun q H3 e3 hL => ?_⟩
    obtain ⟨ys, hq, hY⟩ := hL
    have ylen : ys.length = (strAt dial ss).length := hY.len
    have y256 : ys.length ≤ 256 := by
      have h1 := (str_ok dial ss).2
      have h2 : 2 ^ ss.length ≤ 2 ^ 8 := Nat.pow_le_pow_right (by decide) l8
      omega
    walk_at "rd"
    refine ⟨⟨ys, .inl (.inl hq)⟩, ?_⟩
    refine run_lcL ys (fun D i G => H3 D = none ∧ Ex H3 G ∧ ∃ acc, G D = some (.lst acc) ∧ Txs G acc (((strAt dial ss).take i).filter fun s => !decide (s.hi = some s.lo))) ?_ ?_ ?_ ?_
    · exact fun D hD => ⟨hD, Ex.new hD, [], upd_same, .nil⟩
    · rintro D i G _ ⟨_, eG, _⟩
      exact .inl (.inl (eG _ _ hq))
    · rintro D i v G hi ⟨hD, eG, acc, hG, hT⟩
      obtain ⟨sx, hsx, b, rfl, hb⟩ := hY.get i v hi
      have hb' := eG _ _ hb
      have hlen : acc.length < sizeLine := by
        have h1 := hT.len
        have h2 := List.length_filter_le (fun s : Sx => !decide (s.hi = some s.lo)) ((strAt dial ss).take i)
        rw [List.length_take] at h2
        rw [sizeLine_eq]
        omega
      have ht : (strAt dial ss).take (i + 1) = (strAt dial ss).take i ++ [sx] := by rw [List.take_succ, hsx]; rfl
      rw [ht, List.filter_append]
      walk_at "rd"
      refine ⟨rfl, ?_⟩
      walk_at "rd"
      refine go_ne (by cases sx.hi <;> rfl) ?_
      rw [eq_optL]
      refine ⟨_, rfl, ?_⟩
      cases hc : decide (sx.hi = some sx.lo) with
      | true =>
        refine iteF ?_
        refine ⟨hD, eG, acc, hG, ?_⟩
        rw [show List.filter (fun s : Sx => !decide (s.hi = some s.lo)) [sx] = [] from by rw [List.filter_cons, hc]; rfl, List.append_nil]
        exact hT
      | false =>
        refine iteT ?_
        walk_at "rd"
        refine ⟨acc, hG, hlen, hD, Ex.mut eG hD, acc ++ [.ref b], upd_same, ?_⟩
        rw [show List.filter (fun s : Sx => !decide (s.hi = some s.lo)) [sx] = [sx] from by rw [List.filter_cons, hc]; rfl]
        exact (hT.snoc ⟨b, rfl, hb'⟩).mut hG
    · rintro D G hD ⟨_, eG, acc, hG, hT⟩
      rw [ylen, List.take_length] at hT
      exact good D G (Evl.fresh_back (e.trans e3) hD) ((e.trans e3).trans eG) ⟨acc, hG, hT⟩
end
end Kx

set_option Elab.async false
set_option linter.all false
set_option maxRecDepth 100000
set_option maxHeartbeats 4000000

namespace Kx
open PySem PySem.Spec PyProof.Rows L2 HX
open Evl (Ex)
local macro_rules | `(tactic| walk_at "side") => `(tactic| first | assumption | ((try dsimp only); first | assumption | decide +kernel | omega | exact ⟨by decide, by decide⟩ | (left; decide) | (left; omega) | (refine Or.inl ⟨?_, ?_⟩ <;> omega) | (refine Or.inr ⟨?_, ?_⟩ <;> omega)))
local macro_rules | `(tactic| walk_at "heap") => `(tactic| first | assumption | exact upd_same | exact Or.inl (by assumption) | exact Or.inl upd_same)
local macro_rules | `(tactic| walk_at "item") => `(tactic| first | exact rfl | exact atI_nat (j := 0) rfl | exact atI_nat (j := 1) rfl | exact atI_nat (j := 2) rfl | assumption)
local macro_rules | `(tactic| walk_at "rd") => `(tactic| repeat (first
  | ((with_reducible refine' go_var ?hv ?_); (case hv => exact rfl))
  | with_reducible refine' go_c ?_
  | with_reducible refine' go_op ?_
  | with_reducible refine' go_seq ?_
  | with_reducible refine' go_asg ?_
  | with_reducible refine' go_name ?_
  | with_reducible refine' go_cons ?_
  | with_reducible refine' go_nil ?_
  | with_reducible refine' go_cb ?_
  | with_reducible refine' go_call ?_
  | with_reducible refine' go_ifS ?_
  | with_reducible refine' go_test ?_
  | with_reducible refine' go_bl ?_
  | with_reducible refine' go_ret ?_
  | with_reducible refine' go_I0 ?_
  | ((with_reducible refine' go_I ?cc ?_); (case cc => walk_at "side"))
  | ((with_reducible refine' go_ixL ?hh ?hk ?_); (case hh => walk_at "heap"); (case hk => walk_at "item"))
  | ((with_reducible refine' go_ixT ?hh ?hk ?_); (case hh => walk_at "heap"); (case hk => walk_at "item"))
  | ((with_reducible refine' go_lenL ?hh ?_); (case hh => walk_at "heap"))
  | ((with_reducible refine' go_lenT ?hh ?_); (case hh => walk_at "heap"))
  | ((with_reducible refine' go_setL ?hh ?hk ?_); (case hh => walk_at "heap"); (case hk => walk_at "item"))
  | with_reducible refine' go_abs ?_
  | with_reducible refine' go_max ?_
  | with_reducible refine' go_min ?_
  | with_reducible refine' go_int ?_
  | with_reducible refine' go_intB ?_
  | (with_reducible refine' go_eq rfl ?_)
  | (with_reducible refine' go_ne rfl ?_)
  | with_reducible refine' go_isN ?_
  | with_reducible refine' go_notN ?_
  | with_reducible refine' go_if ?_
  | with_reducible refine' go_sub ?_
  | with_reducible refine' go_par ?_
  | with_reducible refine' go_sl ?_
  | with_reducible refine' go_part ?_
  | with_reducible refine' go_pint ?_
  | with_reducible refine' go_nopart ?_
  | ((with_reducible refine' go_lenL ?hh ?_); (case hh => walk_at "heap"))
  | ((with_reducible refine' go_lenT ?hh ?_); (case hh => walk_at "heap"))
  | ((with_reducible refine' go_lenS ?hh ?_); (case hh => assumption))
  | with_reducible refine' go_gcons ?_
  | with_reducible refine' go_gnil ?_
  | with_reducible refine' go_kw ?_
  | with_reducible refine' go_par2 ?_
  | with_reducible refine' go_next ?_
  | with_reducible refine' go_drop ?_
  | with_reducible refine' go_and ?_
  | with_reducible refine' go_or ?_
  | with_reducible refine' go_not ?_
  | with_reducible refine' go_B ?_
  | with_reducible refine' go_andV ?_
  | with_reducible refine' go_orV ?_
  | with_reducible refine' go_notV ?_
  | with_reducible refine' go_chain ?_
  | with_reducible refine' go_un ?_
  | with_reducible refine' go_U ?_
  | with_reducible refine' go_bm ?_
  | with_reducible refine' go_tup ?_
  | with_reducible refine' go_lst ?_
  | with_reducible refine' go_forR1 ?_
  | with_reducible refine' go_forR2 ?_
  | with_reducible refine' go_forL ?_
  | with_reducible refine' go_forT ?_
  | with_reducible refine' go_forE ?_
  | with_reducible refine' go_lcR1 ?_
  | with_reducible refine' go_lcL ?_
  | with_reducible refine' go_lcT ?_
  | ((with_reducible refine' go_tyL ?hh ?_); (case hh => walk_at "heap"))
  | ((with_reducible refine' go_new ?hz ?_); (case hz => exact Nat.le_of_ble_eq_true rfl))
  | (with_reducible refine' ⟨_, rfl, ?_⟩)
  ))
--MACEND
/-- what a call with a receiver, a dial and a number from 0 on tells -/
structure Tell3 (CR CD CN : Addr) (dx dy dz : PyData) (H : Hp) (E : XK) (good : Prop) : Prop where
  r : ∀ f, fault dx = some f → ∀ H' dd, Ex H H' → H dd = none → H' dd = some (.xd [("index", fltV f)]) → E (.ref CR) (some dd) H'
  d : fault dx = none → isInt dy = false → ∀ H', Ex H H' → E (.ref CD) none H'
  n : fault dx = none → isInt dy = true → isNat dz = false → ∀ H', Ex H H' → E (.ref CN) none H'
  g : fault dx = none → isInt dy = true → isNat dz = true → good
/-- numbers that are no giants -/
def Low3 (dx dy dz : PyData) : Prop := ∀ ss rate dial far, dx = radD ss rate → dy = .int dial → dz = .int far → (∃ B, (∀ s ∈ ss, s.near dial B) ∧ 390625 * B < 2 ^ 1990) ∧ (∀ r, rate = some r → Sm r) ∧ far.natAbs < 2 ^ 1990
theorem go_call3 {sp : Sp} {E : L2.St → XK} {t : TA} {σ : L2.St} {H : Hp} {Q : VK} (h : t σ H fun vs H1 => sp vs H1 Q (E σ)) : tCallS sp E t σ H Q := h
def spCountE (CR CD CN : Addr) : Sp := fun vs H Q E => ∃ x y z dx dy dz, vs = [x, y, z] ∧ Dq H x dx ∧ Dq H y dy ∧ Dq H z dz ∧ Low3 dx dy dz ∧
  Tell3 CR CD CN dx dy dz H E (∀ ss rate dial far, dx = radD ss rate → dy = .int dial → dz = .int far → ss.length ≤ 8 → (∀ r, rate = some r → 2 ≤ r) → 0 ≤ far → ∀ H', Ex H H' → Q (.int (countBegun rate far (slopesOf dial ss))) H')
def spNthE (CR CD CN : Addr) : Sp := fun vs H Q E => ∃ x y z dx dy dz, vs = [x, y, z] ∧ Dq H x dx ∧ Dq H y dy ∧ Dq H z dz ∧ Low3 dx dy dz ∧
  Tell3 CR CD CN dx dy dz H E (∀ ss rate dial i, dx = radD ss rate → dy = .int dial → dz = .int i → ss.length ≤ 8 → (∀ r, rate = some r → 2 ≤ r) → 0 ≤ i →
    (nthS rate (slopesOf dial ss) i = none → ∀ H', Ex H H' → Q .non H') ∧ ∀ t, nthS rate (slopesOf dial ss) i = some t → ∀ v' H', Ex H H' → Tx H' v' t → Q v' H')
theorem rateD_inj {a b : Option Int} (h : rateD a = rateD b) : a = b := by
  cases a <;> cases b <;> simp_all [rateD]
theorem radD_rate {ss ss' : List Stg} {a b : Option Int} (h : radD ss a = radD ss' b) : a = b := by
  unfold radD at h
  injection h with h
  injection h with _ h
  injection h with h _
  exact rateD_inj h
theorem rate_at {H : Hp} {v : V} {rate : Option Int} (h : Dq H v (rateD rate)) : v = optV rate := by
  cases rate with
  | none => cases h; rfl
  | some r => cases h; rfl
section
variable {P : Program} {w : World} {K : PySem.W.Frag} {mg : Str → Option Value} {base : Heap} {CR CD CN : Addr}
abbrev s_check_natural : Stmt := top 21
theorem sc_check_natural : FnScope ["number"] ["number"] (defScope s_check_natural) := ⟨rfl, rfl, rfl, by decide +kernel, rfl, by decide +kernel, by decide +kernel⟩
theorem ok_check_naturalE {C f : Addr} {fd : FuncData} (F : Fun K "check_natural" "check_natural" s_check_natural f fd) (T_InvalidNumber : Err K mg "InvalidNumber" C) (h_is_natural : Has P w K mg base 2 "is_natural" (spLook isNat)) :
    FnOk P w K mg base (L2N.CX P w) 3 f fd ["number"] (spCheckE isNat C) := by
  refine okXN F sc_check_natural (fun vs H Q E h => ?_) (fun cdv A outer s H vs Q E hr h => ?_)
  · obtain ⟨x, d, rfl, _⟩ := h
    rfl
  · obtain ⟨x, d, rfl, hd, k1, k2⟩ := h
    refine ⟨_, (pss_one (ps_if (pt_not (pt_val (pe_hs h_is_natural hr rfl (pa_cons (pv 0) pa_nil))))
  (pss_one (L2N.ps_raise rfl (L2N.takes_of rfl rfl rfl rfl) (L2N.pmk_own PySem.F.excBase_ValueError T_InvalidNumber.x T_InvalidNumber.g T_InvalidNumber.k (raises_own T_InvalidNumber.b T_InvalidNumber.t) rfl)))
  pss_nil)), ?_⟩
    walk_at "rd"
    refine look_go hd fun H1 e1 => ?_
    walk_at "rd"
    cases q : isNat d with
    | true =>
      refine iteF ?_
      walk_at "rd"
      exact k1 q _ e1
    | false =>
      refine iteT ?_
      exact k2 q _ e1
abbrev s_count_slopes : Stmt := top 37
theorem sc_count_slopes : FnScope ["receiver", "dial", "far", "mixed"] ["receiver", "dial", "far"] (defScope s_count_slopes) := ⟨rfl, rfl, rfl, by decide +kernel, rfl, by decide +kernel, by decide +kernel⟩
theorem ok_count_slopes {f : Addr} {fd : FuncData} (F : Fun K "count_slopes" "count_slopes" s_count_slopes f fd) (h_mixed_slopes : HasX P w K mg base 6 "mixed_slopes" (spMixedE CR CD)) (h_check_natural : HasX P w K mg base 3 "check_natural" (spCheckE isNat CN))
    (h__count_begun : Has P w K mg base 4 "_count_begun" spBegun) : FnOk P w K mg base (L2N.CX P w) 7 f fd ["receiver", "dial", "far"] (spCountE CR CD CN) := by
  refine okXN F sc_count_slopes (fun vs H Q E h => ?_) (fun cdv A outer s H vs Q E hr h => ?_)
  · obtain ⟨x, y, z, dx, dy, dz, rfl, _⟩ := h
    rfl
  · obtain ⟨x, y, z, dx, dy, dz, rfl, hx, hy, hz, low, T⟩ := h
    refine ⟨_, (pss_cons (ps_set (i := 3) sc_count_slopes.nd rfl (Or.inl rfl) (pe_hsS h_mixed_slopes hr rfl (fun σ => L2N.passAt (L2N.takes_of rfl rfl rfl rfl) σ) (pa_cons (pv 0) (pa_cons (pv 1) pa_nil))))
  (pss_cons (ps_expr (pe_hsS h_check_natural hr rfl (fun σ => L2N.passAt (L2N.takes_of rfl rfl rfl rfl) σ) (pa_cons (pv 2) pa_nil)))
  (pss_one (ps_ret (pe_hs h__count_begun hr rfl (pa_cons (pv 3) (pa_cons (pe_ix ix_tup (pv 0) pe_int (fun _ _ => rfl)) (pa_cons (pv 2) pa_nil)))))))), ?_⟩
    walk_at "rd"
    refine go_call3 ?_
    walk_at "rd"
    refine ⟨x, y, dx, dy, rfl, hx, hy, T.r, T.d, fun h0 h1 ss rate dial ex ey l8 q H1 _ e1 hL => ?_⟩
    walk_at "rd"
    refine go_call3 ?_
    walk_at "rd"
    refine go_checkE (hz.ex e1) (fun h2 H2 e2 => ?_) fun h2 H2 e2 => T.n h0 h1 h2 _ (e1.trans e2)
    have good := T.g h0 h1 h2
    obtain ⟨ss', rate', er, ne, _, hrt⟩ := fault_none h0
    obtain ⟨far, rfl, far0⟩ := nat_int h2
    cases hz
    subst ex
    subst ey
    cases hy
    obtain ⟨⟨B, hB, hB2⟩, hsm, hfar⟩ := low ss rate dial far rfl rfl rfl
    obtain ⟨a, xs, rfl, ha, hda⟩ := Dq.tupleAt (ds := [.list (ss.map Stg.d), rateD rate]) (hx.ex (e1.trans e2))
    obtain ⟨v1, v2, d1, d2, rfl, ed, hv1, hv2⟩ := dqa2 hda rfl
    obtain ⟨rfl, rfl⟩ : PyData.list (ss.map Stg.d) = d1 ∧ rateD rate = d2 := by simpa using ed
    obtain rfl := rate_at hv2
    have r2 : ∀ r, rate = some r → 2 ≤ r := fun r hr => hrt r ((radD_rate er).symm.trans hr)
    walk_at "rd"
    refine ⟨q, rate, far, slopesOf dial ss, rfl, hL.ex e2, fun s hs => ⟨(slopes_ok hB l8 hB2 s hs).1.w, (slopes_ok hB l8 hB2 s hs).2⟩, r2, hfar, far0, fun H3 e3 => ?_⟩
    exact good ss rate dial far rfl rfl rfl l8 r2 far0 _ ((e1.trans e2).trans e3)
abbrev s_nth_slope : Stmt := top 38
theorem sc_nth_slope : FnScope ["receiver", "dial", "index", "mixed"] ["receiver", "dial", "index"] (defScope s_nth_slope) := ⟨rfl, rfl, rfl, by decide +kernel, rfl, by decide +kernel, by decide +kernel⟩
theorem ok_nth_slope {f : Addr} {fd : FuncData} (F : Fun K "nth_slope" "nth_slope" s_nth_slope f fd) (h_mixed_slopes : HasX P w K mg base 6 "mixed_slopes" (spMixedE CR CD)) (h_check_natural : HasX P w K mg base 3 "check_natural" (spCheckE isNat CN))
    (h__nth_slope_of : Has P w K mg base 4 "_nth_slope_of" spNth) : FnOk P w K mg base (L2N.CX P w) 7 f fd ["receiver", "dial", "index"] (spNthE CR CD CN) := by
  refine okXN F sc_nth_slope (fun vs H Q E h => ?_) (fun cdv A outer s H vs Q E hr h => ?_)
  · obtain ⟨x, y, z, dx, dy, dz, rfl, _⟩ := h
    rfl
  · obtain ⟨x, y, z, dx, dy, dz, rfl, hx, hy, hz, low, T⟩ := h
    refine ⟨_, (pss_cons (ps_set (i := 3) sc_nth_slope.nd rfl (Or.inl rfl) (pe_hsS h_mixed_slopes hr rfl (fun σ => L2N.passAt (L2N.takes_of rfl rfl rfl rfl) σ) (pa_cons (pv 0) (pa_cons (pv 1) pa_nil))))
  (pss_cons (ps_expr (pe_hsS h_check_natural hr rfl (fun σ => L2N.passAt (L2N.takes_of rfl rfl rfl rfl) σ) (pa_cons (pv 2) pa_nil)))
  (pss_one (ps_ret (pe_hs h__nth_slope_of hr rfl (pa_cons (pv 3) (pa_cons (pe_ix ix_tup (pv 0) pe_int (fun _ _ => rfl)) (pa_cons (pv 2) pa_nil)))))))), ?_⟩
    walk_at "rd"
    refine go_call3 ?_
    walk_at "rd"
    refine ⟨x, y, dx, dy, rfl, hx, hy, T.r, T.d, fun h0 h1 ss rate dial ex ey l8 q H1 _ e1 hL => ?_⟩
    walk_at "rd"
    refine go_call3 ?_
    walk_at "rd"
    refine go_checkE (hz.ex e1) (fun h2 H2 e2 => ?_) fun h2 H2 e2 => T.n h0 h1 h2 _ (e1.trans e2)
    have good := T.g h0 h1 h2
    obtain ⟨ss', rate', er, ne, _, hrt⟩ := fault_none h0
    obtain ⟨far, rfl, far0⟩ := nat_int h2
    cases hz
    subst ex
    subst ey
    cases hy
    obtain ⟨⟨B, hB, hB2⟩, hsm, hfar⟩ := low ss rate dial far rfl rfl rfl
    obtain ⟨a, xs, rfl, ha, hda⟩ := Dq.tupleAt (ds := [.list (ss.map Stg.d), rateD rate]) (hx.ex (e1.trans e2))
    obtain ⟨v1, v2, d1, d2, rfl, ed, hv1, hv2⟩ := dqa2 hda rfl
    obtain ⟨rfl, rfl⟩ : PyData.list (ss.map Stg.d) = d1 ∧ rateD rate = d2 := by simpa using ed
    obtain rfl := rate_at hv2
    have r2 : ∀ r, rate = some r → 2 ≤ r := fun r hr => hrt r ((radD_rate er).symm.trans hr)
    have good := good ss rate dial far rfl rfl rfl l8 r2 far0
    walk_at "rd"
    refine ⟨q, rate, far, slopesOf dial ss, rfl, hL.ex e2, fun s hs => (slopes_ok hB l8 hB2 s hs).1, fun r hr => ⟨r2 r hr, hsm r hr⟩, far0, Nat.le_trans (Nat.le_of_lt hfar) (Nat.pow_le_pow_right (by decide) (by decide)), fun hn H3 e3 => ?_, fun t ht v' H3 e3 hv => ?_⟩
    · exact good.1 hn _ ((e1.trans e2).trans e3)
    · exact good.2 t ht v' _ ((e1.trans e2).trans e3) hv
end
end Kx

set_option Elab.async false
set_option linter.all false
set_option maxRecDepth 100000
set_option maxHeartbeats 4000000
namespace Kx
open PySem PySem.Spec PyProof.Rows L2 HX
theorem ffold_mono {r x y : Int} (hr : 2 ≤ r) (h : x ≤ y) : ffold r x ≤ ffold r y := by
  have q := Int.ediv_le_ediv (show (0 : Int) < r by omega) (show x - 1 ≤ y - 1 by omega)
  unfold ffold
  by_cases e : (x - 1) / r = (y - 1) / r
  · have m1 := Int.emod_add_mul_ediv (x - 1) r
    have m2 := Int.emod_add_mul_ediv (y - 1) r
    rw [e] at m1 ⊢
    split <;> split <;> omega
  · split <;> split <;> omega
theorem lfold_mono {r x y : Int} (hr : 2 ≤ r) (h : x ≤ y) : lfold r x ≤ lfold r y := by
  have q := Int.ediv_le_ediv (show (0 : Int) < r by omega) h
  unfold lfold
  by_cases e : x / r = y / r
  · have m1 := Int.emod_add_mul_ediv x r
    have m2 := Int.emod_add_mul_ediv y r
    rw [e] at m1 ⊢
    split <;> split <;> omega
  · split <;> split <;> omega
/-- a part of a stretch makes no more slopes -/
theorem part_le {s p : Sx} {h : Int} {rate : Option Int} {c cp : Int} (hw : Wy s) (h2 : ∀ r, rate = some r → 2 ≤ r) (e : cutS s 0 (some h) = some p) (hc : countM s rate = some c) (hp : countM p rate = some cp) : cp ≤ c := by
  cases rate with
  | none => cases hc; cases hp; exact Int.le_refl _
  | some r =>
    have hr := h2 r rfl
    obtain ⟨l, hl, hlor⟩ := cut_end e
    obtain ⟨hlo, hnum⟩ := cut_lo e
    have hway := cutS_way e
    cases hh : s.hi with
    | none =>
      unfold countM at hc
      dsimp only at hc
      rw [show (foldsA s r).2 = none from by unfold foldsA; rw [hh]] at hc
      cases hc
    | some g =>
      have hle : l ≤ g ∧ p.lo ≤ l := by
        unfold cutS at e
        rw [hh] at e
        obtain ⟨t, ht, htg⟩ : ∃ t, topOf (some g) (some h) = some t ∧ t ≤ g := by
          unfold topOf
          dsimp only
          split
          · exact ⟨h, rfl, by omega⟩
          · exact ⟨g, rfl, Int.le_refl _⟩
        rw [ht] at e
        dsimp only at e
        split at e
        · cases e
        · rename_i hn
          cases e
          cases hl
          exact ⟨htg, by dsimp only; omega⟩
      have hlow : s.lo ≤ p.lo := by
        rw [hlo]
        show s.lo ≤ (if 0 > s.lo then 0 else s.lo)
        split <;> omega
      have en : endOf p l = endOf s l := by
        unfold endOf
        rw [hnum, hway, ← hlo]
        rcases hw with w | w <;> rw [w] <;> omega
      have a1 : (foldsA s r).1 = ffold r (mnI s.num (endOf s g) + 1) := by unfold foldsA; rw [hh]
      have a2 : (foldsA s r).2 = some (lfold r (mxI s.num (endOf s g) - 1)) := by unfold foldsA; rw [hh]
      have b1 : (foldsA p r).1 = ffold r (mnI p.num (endOf s l) + 1) := by unfold foldsA; rw [hl]; dsimp only; rw [en]
      have b2 : (foldsA p r).2 = some (lfold r (mxI p.num (endOf s l) - 1)) := by unfold foldsA; rw [hl]; dsimp only; rw [en]
      unfold countM at hc hp
      dsimp only at hc hp
      rw [a2, a1] at hc
      rw [b2, b1] at hp
      cases hc
      cases hp
      have hn2 : p.num = s.num + s.way * (p.lo - s.lo) := by rw [hnum, hlo]
      have o1 : mnI s.num (endOf s g) + 1 ≤ mnI p.num (endOf s l) + 1 := by
        show (if endOf s g < s.num then endOf s g else s.num) + 1 ≤ (if endOf s l < p.num then endOf s l else p.num) + 1
        rw [hn2]
        unfold endOf
        rcases hw with w | w <;> rw [w] <;> split <;> split <;> omega
      have o2 : mxI p.num (endOf s l) - 1 ≤ mxI s.num (endOf s g) - 1 := by
        show (if endOf s l > p.num then endOf s l else p.num) - 1 ≤ (if endOf s g > s.num then endOf s g else s.num) - 1
        rw [hn2]
        unfold endOf
        rcases hw with w | w <;> rw [w] <;> split <;> split <;> omega
      have f1 := ffold_mono hr o1
      have f2 := lfold_mono hr o2
      omega
theorem begun_add (rate : Option Int) (far m : Int) (s : Sx) : begunStep rate far m s = m + begunStep rate far 0 s := by
  unfold begunStep
  cases cutS s 0 (some (far + 1)) with
  | none => dsimp only; omega
  | some p =>
    dsimp only
    generalize (match countM p rate with | some c => c | none => 0) = z
    split <;> omega
theorem begun_from (rate : Option Int) (far : Int) : ∀ (ss : List Sx) (m : Int), ss.foldl (begunStep rate far) m = m + countBegun rate far ss
  | [], m => by simp [countBegun]
  | s :: ss, m => by
    have h1 := begun_from rate far ss (begunStep rate far m s)
    have h2 := begun_from rate far ss (begunStep rate far 0 s)
    unfold countBegun at h1 h2 ⊢
    rw [List.foldl_cons, List.foldl_cons, h1, h2, begun_add]
    omega
theorem begun_le {s : Sx} {rate : Option Int} {far c : Int} (ok : SlopeOk s) (h2 : ∀ r, rate = some r → 2 ≤ r ∧ Sm r) (hc : countM s rate = some c) : begunStep rate far 0 s ≤ c := by
  have c0 := count_nn ok h2 hc
  unfold begunStep
  cases he : cutS s 0 (some (far + 1)) with
  | none => exact c0
  | some p =>
    dsimp only
    split
    · exact c0
    · obtain ⟨g, hg, _⟩ := cut_end he
      obtain ⟨cp, hcp⟩ := count_some hg rate
      rw [hcp]
      have := part_le ok.w (fun r hr => (h2 r hr).1) he hc hcp
      dsimp only
      omega
/-- an index below what has begun has a slope -/
theorem nth_some {rate : Option Int} {far : Int} (h2 : ∀ r, rate = some r → 2 ≤ r ∧ Sm r) : ∀ (ss : List Sx) (i : Int), (∀ s ∈ ss, SlopeOk s) → i < countBegun rate far ss → (0 ≤ i) → ∃ t, nthS rate ss i = some t
  | [], i, _, h, h0 => by simp [countBegun] at h; omega
  | s :: ss, i, ok, h, h0 => by
    rw [nthS]
    cases hc : countM s rate with
    | none => exact ⟨_, rfl⟩
    | some c =>
      dsimp only
      by_cases lt : i < c
      · rw [if_pos lt]; exact ⟨_, rfl⟩
      · rw [if_neg lt]
        have hb := begun_le (far := far) (ok s List.mem_cons_self) h2 hc
        have he : countBegun rate far (s :: ss) = begunStep rate far 0 s + countBegun rate far ss := by
          have := begun_from rate far ss (begunStep rate far 0 s)
          unfold countBegun at this ⊢
          rw [List.foldl_cons, this]
        rw [he] at h
        exact nth_some (far := far) h2 ss (i - c) (fun x hx => ok x (List.mem_cons_of_mem _ hx)) (by omega) (by omega)
theorem cut_ord {s p : Sx} {low h g : Int} (e : cutS s low (some h) = some p) (z : p.hi = some g) : p.lo ≤ g := by
  unfold cutS at e
  generalize topOf s.hi (some h) = o at e
  cases o with
  | none => cases e; cases z
  | some l =>
    dsimp only at e
    split at e
    · cases e
    · cases e
      cases z
      dsimp only
      omega
theorem cut_slope {s p : Sx} {far : Int} (ok : SlopeOk s) (b : Bd 1990 s) (hf : far.natAbs < 2 ^ 1990) (h0 : 0 ≤ far) (e : cutS s 0 (some (far + 1)) = some p) (ne : ¬ p.hi = some p.lo) : SlopeOk p := by
  obtain ⟨g, hg, _⟩ := cut_end e
  refine ⟨?_, cut_bd ok.w b (by decide +kernel) (far_bd hf h0) e, fun z => (by rw [hg] at z; cases z), fun g' z => ?_⟩
  · unfold Wy
    rw [cutS_way e]
    exact ok.w
  · have le := cut_ord e z
    have : ¬ p.lo = g' := fun w => ne (by rw [z, w])
    omega
theorem bd_key {B : Nat} {f l : Int} (h1 : f.natAbs ≤ 7 * B) (h2 : l.natAbs ≤ 7 * B) (h3 : 1 ≤ B) (h4 : 0 ≤ l - f + 1) : (l - f + 1).natAbs ≤ 15 * B := by omega
theorem step_bd {s : Sx} {rate : Option Int} {far : Int} (ok : SlopeOk s) (b : Bd 1990 s) (h2 : ∀ r, rate = some r → 2 ≤ r ∧ Sm r) (hf : far.natAbs < 2 ^ 1990) (h0 : 0 ≤ far) :
    0 ≤ begunStep rate far 0 s ∧ (begunStep rate far 0 s).natAbs ≤ 15 * 2 ^ 2000 := by
  unfold begunStep
  cases he : cutS s 0 (some (far + 1)) with
  | none => exact ⟨Int.le_refl _, Nat.zero_le _⟩
  | some p =>
    dsimp only
    split
    · exact ⟨Int.le_refl _, Nat.zero_le _⟩
    · rename_i ne
      have okp := cut_slope ok b hf h0 he ne
      obtain ⟨g, hg, _⟩ := cut_end he
      obtain ⟨cp, hcp⟩ := count_some hg rate
      rw [hcp]
      dsimp only
      have nn := count_nn okp h2 hcp
      refine ⟨by omega, ?_⟩
      cases rate with
      | none =>
        cases hcp
        have : 1 ≤ 15 * (2 : Nat) ^ 2000 := by decide +kernel
        generalize (2 : Nat) ^ 2000 = B at *
        omega
      | some r =>
        obtain ⟨b1, b2⟩ := folds_bd (r := r) okp.w okp.b
        unfold countM at hcp
        dsimp only at hcp
        cases hl : (foldsA p r).2 with
        | none => rw [hl] at hcp; cases hcp
        | some l =>
          rw [hl] at hcp
          cases hcp
          have t2 := b2 l hl
          have big : 1 ≤ (2 : Nat) ^ 2000 := by decide +kernel
          rw [Int.zero_add]
          exact bd_key b1 t2 big nn
theorem begun_bd {rate : Option Int} {far : Int} (h2 : ∀ r, rate = some r → 2 ≤ r ∧ Sm r) (hf : far.natAbs < 2 ^ 1990) (h0 : 0 ≤ far) : ∀ ss : List Sx, (∀ s ∈ ss, SlopeOk s ∧ Bd 1990 s) → 0 ≤ countBegun rate far ss ∧ (countBegun rate far ss).natAbs ≤ ss.length * (15 * 2 ^ 2000)
  | [], _ => by simp [countBegun]
  | s :: ss, ok => by
    obtain ⟨i1, i2⟩ := begun_bd h2 hf h0 ss fun x hx => ok x (List.mem_cons_of_mem _ hx)
    obtain ⟨o1, o2⟩ := ok s List.mem_cons_self
    obtain ⟨j1, j2⟩ := step_bd o1 o2 h2 hf h0
    have he : countBegun rate far (s :: ss) = begunStep rate far 0 s + countBegun rate far ss := by
      have := begun_from rate far ss (begunStep rate far 0 s)
      unfold countBegun at this ⊢
      rw [List.foldl_cons, this]
    rw [he, List.length_cons, Nat.add_mul, Nat.one_mul]
    generalize ss.length * (15 * 2 ^ 2000) = A at *
    generalize 15 * (2 : Nat) ^ 2000 = B at *
    omega
theorem begun_room {n : Nat} (h : n ≤ 256) : n * (15 * 2 ^ 2000) ≤ 2 ^ 2500 := Nat.le_trans (Nat.mul_le_mul_right _ h) (by decide +kernel)
end Kx

set_option Elab.async false
set_option linter.all false
set_option maxRecDepth 100000
set_option maxHeartbeats 4000000
namespace Kx
open PySem PySem.Spec PyProof.Rows L2 HX
/-- the last two slopes that have begun up to a signal -/
def firstOf (many : Int) : Int := if many - 2 > 0 then many - 2 else 0
def lastTwo (rate : Option Int) (ss : List Sx) (sig : Int) : List Sx := (List.range (countBegun rate sig ss - firstOf (countBegun rate sig ss)).toNat).filterMap fun n : Nat => nthS rate ss (firstOf (countBegun rate sig ss) + n)
def reach (sig : Int) (s : Sx) : Bool := match s.hi with
  | none => true
  | some g => decide (g ≥ sig)
def slopesAtL (rate : Option Int) (ss : List Sx) (sig : Int) : List Sx := (lastTwo rate ss sig).filter (reach sig)
theorem go_yes {σ : L2.St} {H : Hp} {QT : Bool → Hp → Prop} (h : QT true H) : tYes σ H QT := h
end Kx

set_option Elab.async false
set_option linter.all false
set_option maxRecDepth 100000
set_option maxHeartbeats 4000000

namespace Kx
open PySem PySem.Spec PyProof.Rows L2 HX
open Evl (Ex)
local macro_rules | `(tactic| walk_at "side") => `(tactic| first | assumption | ((try dsimp only); first | assumption | decide +kernel | omega | exact ⟨by decide, by decide⟩ | (left; decide) | (left; omega) | (refine Or.inl ⟨?_, ?_⟩ <;> omega) | (refine Or.inr ⟨?_, ?_⟩ <;> omega)))
local macro_rules | `(tactic| walk_at "heap") => `(tactic| first | assumption | exact upd_same | exact Or.inl (by assumption) | exact Or.inl upd_same)
local macro_rules | `(tactic| walk_at "item") => `(tactic| first | exact rfl | exact atI_nat (j := 0) rfl | exact atI_nat (j := 1) rfl | exact atI_nat (j := 2) rfl | assumption)
local macro_rules | `(tactic| walk_at "rd") => `(tactic| repeat (first
  | ((with_reducible refine' go_var ?hv ?_); (case hv => exact rfl))
  | with_reducible refine' go_c ?_
  | with_reducible refine' go_op ?_
  | with_reducible refine' go_seq ?_
  | with_reducible refine' go_asg ?_
  | with_reducible refine' go_name ?_
  | with_reducible refine' go_cons ?_
  | with_reducible refine' go_nil ?_
  | with_reducible refine' go_cb ?_
  | with_reducible refine' go_call ?_
  | with_reducible refine' go_ifS ?_
  | with_reducible refine' go_test ?_
  | with_reducible refine' go_bl ?_
  | with_reducible refine' go_ret ?_
  | with_reducible refine' go_I0 ?_
  | ((with_reducible refine' go_I ?cc ?_); (case cc => walk_at "side"))
  | ((with_reducible refine' go_ixL ?hh ?hk ?_); (case hh => walk_at "heap"); (case hk => walk_at "item"))
  | ((with_reducible refine' go_ixT ?hh ?hk ?_); (case hh => walk_at "heap"); (case hk => walk_at "item"))
  | ((with_reducible refine' go_lenL ?hh ?_); (case hh => walk_at "heap"))
  | ((with_reducible refine' go_lenT ?hh ?_); (case hh => walk_at "heap"))
  | ((with_reducible refine' go_setL ?hh ?hk ?_); (case hh => walk_at "heap"); (case hk => walk_at "item"))
  | with_reducible refine' go_abs ?_
  | with_reducible refine' go_max ?_
  | with_reducible refine' go_min ?_
  | with_reducible refine' go_int ?_
  | with_reducible refine' go_intB ?_
  | (with_reducible refine' go_eq rfl ?_)
  | (with_reducible refine' go_ne rfl ?_)
  | with_reducible refine' go_isN ?_
  | with_reducible refine' go_notN ?_
  | with_reducible refine' go_if ?_
  | with_reducible refine' go_sub ?_
  | with_reducible refine' go_par ?_
  | with_reducible refine' go_sl ?_
  | with_reducible refine' go_part ?_
  | with_reducible refine' go_pint ?_
  | with_reducible refine' go_nopart ?_
  | ((with_reducible refine' go_lenL ?hh ?_); (case hh => walk_at "heap"))
  | ((with_reducible refine' go_lenT ?hh ?_); (case hh => walk_at "heap"))
  | ((with_reducible refine' go_lenS ?hh ?_); (case hh => assumption))
  | with_reducible refine' go_gcons ?_
  | with_reducible refine' go_gnil ?_
  | with_reducible refine' go_kw ?_
  | with_reducible refine' go_par2 ?_
  | with_reducible refine' go_next ?_
  | with_reducible refine' go_drop ?_
  | with_reducible refine' go_and ?_
  | with_reducible refine' go_or ?_
  | with_reducible refine' go_not ?_
  | with_reducible refine' go_B ?_
  | with_reducible refine' go_andV ?_
  | with_reducible refine' go_orV ?_
  | with_reducible refine' go_notV ?_
  | with_reducible refine' go_chain ?_
  | with_reducible refine' go_un ?_
  | with_reducible refine' go_U ?_
  | with_reducible refine' go_bm ?_
  | with_reducible refine' go_tup ?_
  | with_reducible refine' go_lst ?_
  | with_reducible refine' go_forR1 ?_
  | with_reducible refine' go_forR2 ?_
  | with_reducible refine' go_forL ?_
  | with_reducible refine' go_forT ?_
  | with_reducible refine' go_forE ?_
  | with_reducible refine' go_lcR1 ?_
  | with_reducible refine' go_lcL ?_
  | with_reducible refine' go_lcT ?_
  | ((with_reducible refine' go_tyL ?hh ?_); (case hh => walk_at "heap"))
  | ((with_reducible refine' go_new ?hz ?_); (case hz => exact Nat.le_of_ble_eq_true rfl))
  | (with_reducible refine' ⟨_, rfl, ?_⟩)
  ))
--MACEND
def spAtE (CR CD CS : Addr) : Sp := fun vs H Q E => ∃ x y z dx dy dz, vs = [x, y, z] ∧ Dq H x dx ∧ Dq H y dy ∧ Dq H z dz ∧ Low3 dx dy dz ∧
  Tell3 CR CD CS dx dy dz H E (∀ ss rate dial sig, dx = radD ss rate → dy = .int dial → dz = .int sig → ss.length ≤ 8 → (∀ r, rate = some r → 2 ≤ r) → 0 ≤ sig → ∀ q H', H q = none → Ex H H' → Lx H' q (slopesAtL rate (slopesOf dial ss) sig) → Q (.ref q) H')
section
variable {P : Program} {w : World} {K : PySem.W.Frag} {mg : Str → Option Value} {base : Heap} {CR CD CS : Addr}
abbrev s_slopes_at : Stmt := top 36
theorem sc_slopes_at : FnScope ["receiver", "dial", "signal", "mixed", "rate", "many", "last_two", "index", "slope"] ["receiver", "dial", "signal"] (defScope s_slopes_at) := ⟨rfl, rfl, rfl, by decide +kernel, rfl, by decide +kernel, by decide +kernel⟩
theorem ok_slopes_at {f : Addr} {fd : FuncData} (F : Fun K "slopes_at" "slopes_at" s_slopes_at f fd) (m_range : mg "range" = none) (m_max : mg "max" = none) (h_mixed_slopes : HasX P w K mg base 6 "mixed_slopes" (spMixedE CR CD)) (h_check_signal : HasX P w K mg base 3 "check_signal" (spCheckE isNat CS))
    (h__count_begun : Has P w K mg base 4 "_count_begun" spBegun) (h__nth_slope_of : Has P w K mg base 4 "_nth_slope_of" spNth) : FnOk P w K mg base (L2N.CX P w) 7 f fd ["receiver", "dial", "signal"] (spAtE CR CD CS) := by
  refine okXN F sc_slopes_at (fun vs H Q E h => ?_) (fun cdv A outer s H vs Q E hr h => ?_)
  · obtain ⟨x, y, z, dx, dy, dz, rfl, _⟩ := h
    rfl
  · obtain ⟨x, y, z, dx, dy, dz, rfl, hx, hy, hz, low, T⟩ := h
    refine ⟨_, (pss_cons (ps_set (i := 3) sc_slopes_at.nd rfl (Or.inr rfl) (pe_hsS h_mixed_slopes hr rfl (fun σ => L2N.passAt (L2N.takes_of rfl rfl rfl rfl) σ) (pa_cons (pv 0) (pa_cons (pv 1) pa_nil))))
  (pss_cons (ps_expr (pe_hsS h_check_signal hr rfl (fun σ => L2N.passAt (L2N.takes_of rfl rfl rfl rfl) σ) (pa_cons (pv 2) pa_nil)))
  (pss_cons (ps_set (i := 4) sc_slopes_at.nd rfl (Or.inr rfl) (pe_ix ix_tup (pv 0) pe_int (fun _ _ => rfl)))
  (pss_cons (ps_set (i := 5) sc_slopes_at.nd rfl (Or.inl rfl) (pe_hs h__count_begun hr rfl (pa_cons (pv 3) (pa_cons (pv 4) (pa_cons (pv 2) pa_nil)))))
  (pss_cons (ps_setLc (i := 6) (own := [("index", 7)]) (g := gName 7) (by rfl) sc_slopes_at.nd rfl rfl (sw_true rfl rfl rfl (by decide +kernel)) (pi_range2W (by rfl) m_range (pa_cons (pe_callB (call_maxQ rfl) rfl m_max boot_max (pa_cons pe_int (pa_cons (pe_op op_sub (pv 5) pe_int) pa_nil))) (pa_cons (pv 5) pa_nil))) (blkOk_by (own := [("index", 7)]) (N := ["receiver", "dial", "signal", "mixed", "rate", "many", "last_two", "index", "slope"]) (sc := defScope s_slopes_at) (by decide +kernel)) (fun _ _ _ _ _ => pg_name (i := 7) (sc_slopes_at).nd rfl (Or.inl rfl)) (fun _ _ _ _ _ => pts_nil) (fun _ _ _ _ _ => (pe_hs h__nth_slope_of hr rfl (pa_cons (pv 3) (pa_cons (pv 4) (pa_cons (pv 7) pa_nil))))))
  (pss_one (ps_ret (pe_lc (own := [("slope", 8)]) (g := gName 8) (by rfl) (sc_slopes_at).nd (pi_list (pv 6)) (blkOk_by (own := [("slope", 8)]) (N := ["receiver", "dial", "signal", "mixed", "rate", "many", "last_two", "index", "slope"]) (sc := defScope s_slopes_at) (by decide +kernel)) (fun _ _ _ _ _ => pg_name (i := 8) (sc_slopes_at).nd rfl (Or.inl rfl)) (fun _ _ _ _ _ => (pts_one (PW.pt (pw_or (pt_cmpR op_isN1 (pe_ix (show IxR _ (rIxT K) from ix_tup) (pv 8) pe_int (fun _ _ => rfl)) pe_non (nomark _)) (pw_or1 (pt_cmpR op_ge (pe_ix (show IxR _ (rIxT K) from ix_tup) (pv 8) pe_int (fun _ _ => rfl)) (pv 2) (nomark _))))))) (fun _ _ _ _ _ => (pv 8)))))))))), ?_⟩
    walk_at "rd"
    refine go_call3 ?_
    walk_at "rd"
    refine ⟨x, y, dx, dy, rfl, hx, hy, T.r, T.d, fun h0 h1 ss rate dial ex ey l8 q H1 _ e1 hL => ?_⟩
    walk_at "rd"
    refine go_call3 ?_
    walk_at "rd"
    refine go_checkE (hz.ex e1) (fun h2 H2 e2 => ?_) fun h2 H2 e2 => T.n h0 h1 h2 _ (e1.trans e2)
    have good := T.g h0 h1 h2
    obtain ⟨ss', rate', er, ne, _, hrt⟩ := fault_none h0
    obtain ⟨sig, rfl, sig0⟩ := nat_int h2
    cases hz
    subst ex
    subst ey
    cases hy
    obtain ⟨⟨B, hB, hB2⟩, hsm, hfar⟩ := low ss rate dial sig rfl rfl rfl
    obtain ⟨a, xs, rfl, ha, hda⟩ := Dq.tupleAt (ds := [.list (ss.map Stg.d), rateD rate]) (hx.ex (e1.trans e2))
    obtain ⟨v1, v2, d1, d2, rfl, ed, hv1, hv2⟩ := dqa2 hda rfl
    obtain ⟨rfl, rfl⟩ : PyData.list (ss.map Stg.d) = d1 ∧ rateD rate = d2 := by simpa using ed
    obtain rfl := rate_at hv2
    have r2 : ∀ r, rate = some r → 2 ≤ r := fun r hr => hrt r ((radD_rate er).symm.trans hr)
    have good := good ss rate dial sig rfl rfl rfl l8 r2 sig0
    have ok := slopes_ok hB l8 hB2
    have slen : (slopesOf dial ss).length ≤ 256 := by
      have h1 := (str_ok dial ss).2
      have h2 : 2 ^ ss.length ≤ 2 ^ 8 := Nat.pow_le_pow_right (by decide) l8
      have h3 := List.length_filter_le (fun s : Sx => !decide (s.hi = some s.lo)) (strAt dial ss)
      unfold slopesOf
      omega
    generalize slopesOf dial ss = S at *
    have h2s : ∀ r, rate = some r → 2 ≤ r ∧ Sm r := fun r hr => ⟨r2 r hr, hsm r hr⟩
    walk_at "rd"
    refine ⟨q, rate, sig, S, rfl, hL.ex e2, fun s hs => ⟨(ok s hs).1.w, (ok s hs).2⟩, r2, hfar, sig0, fun H3 e3 => ?_⟩
    walk_at "rd"
    obtain ⟨m0, m1⟩ := begun_bd h2s hfar sig0 S ok
    have m2 := Nat.le_trans m1 (begun_room slen)
    have some_ := fun i h => nth_some (far := sig) h2s S i (fun s hs => (ok s hs).1) h
    unfold slopesAtL lastTwo at good
    generalize countBegun rate sig S = many at *
    have e123 := (e1.trans e2).trans e3
    have hL3 := (hL.ex e2).ex e3
    refine go_lcR2W ?_
    walk_at "rd"
    refine ⟨_, _, rfl, ?_⟩
    rw [show (if many - 2 > 0 then many - 2 else 0) = firstOf many from rfl]
    have f0 : 0 ≤ firstOf many ∧ firstOf many ≤ many ∧ many - firstOf many ≤ 2 := by unfold firstOf; split <;> omega
    refine run_lcR (fun D n G => H3 D = none ∧ Ex H3 G ∧ ∃ acc, G D = some (.lst acc) ∧ Txs G acc ((List.range n).filterMap fun z : Nat => nthS rate S (firstOf many + z))) ?_ ?_ ?_
    · exact fun D hD => ⟨hD, Ex.new hD, [], upd_same, .nil⟩
    · rintro D n G hn ⟨hD, eG, acc, hG, hT⟩
      have hlt : (n : Int) < many - firstOf many := by omega
      obtain ⟨t, ht⟩ := some_ (firstOf many + n) (by omega) (by omega)
      have hlen : acc.length < sizeLine := by
        have h1 := hT.len
        have h2 := List.length_filterMap_le (fun z : Nat => nthS rate S (firstOf many + z)) (List.range n)
        rw [List.length_range] at h2
        rw [sizeLine_eq]
        omega
      walk_at "rd"
      refine ⟨rfl, go_yes (iteT ?_)⟩
      walk_at "rd"
      refine ⟨q, rate, firstOf many + n, S, rfl, hL3.ex eG, fun s hs => (ok s hs).1, h2s, by omega, Nat.le_trans (show (firstOf many + (n : Int)).natAbs ≤ many.natAbs by omega) m2, fun hn' => (by rw [ht] at hn'; cases hn'), fun t' ht' v' G' e' hv => ?_⟩
      obtain rfl : t = t' := by rw [ht] at ht'; cases ht'; rfl
      obtain ⟨b, rfl, hb⟩ := id hv
      refine ⟨acc, e' _ _ hG, hlen, hD, Ex.mut (eG.trans e') hD, acc ++ [.ref b], upd_same, ?_⟩
      rw [List.range_succ, List.filterMap_append]
      rw [show List.filterMap (fun z : Nat => nthS rate S (firstOf many + z)) [n] = [t] from by simp [ht]]
      exact ((hT.ex e').snoc hv).mut (e' _ _ hG)
    · rintro D G hD ⟨_, eG, acc, hG, hT⟩
      have len2 := List.length_filterMap_le (fun z : Nat => nthS rate S (firstOf many + z)) (List.range (many - firstOf many).toNat)
      rw [List.length_range] at len2
      generalize (List.range (many - firstOf many).toNat).filterMap (fun z : Nat => nthS rate S (firstOf many + z)) = L at *
      walk_at "rd"
      refine ⟨⟨acc, .inl (.inl hG)⟩, ?_⟩
      refine run_lcL acc (fun D2 n G' => G D2 = none ∧ Ex G G' ∧ ∃ acc2, G' D2 = some (.lst acc2) ∧ Txs G' acc2 ((L.take n).filter (reach sig))) ?_ ?_ ?_ ?_
      · exact fun D2 hD2 => ⟨hD2, Ex.new hD2, [], upd_same, .nil⟩
      · rintro D2 n G' _ ⟨_, e', _⟩
        exact .inl (.inl (e' _ _ hG))
      · rintro D2 n v G' hv ⟨hD2, e', acc2, hG2, hT2⟩
        obtain ⟨sx, hsx, b, rfl, hb⟩ := hT.get n v hv
        have hb' := e' _ _ hb
        have hlen : acc2.length < sizeLine := by
          have h1 := hT2.len
          have h2 := List.length_filter_le (reach sig) (L.take n)
          rw [List.length_take] at h2
          have h3 := (List.getElem?_eq_some_iff.mp hsx).1
          have h4 := hT.len
          rw [sizeLine_eq]
          omega
        have ht : L.take (n + 1) = L.take n ++ [sx] := by rw [List.take_succ, hsx]; rfl
        rw [ht, List.filter_append]
        walk_at "rd"
        refine ⟨rfl, ?_⟩
        have yes : reach sig sx = true → ∃ acc, G' D2 = some (.lst acc) ∧ acc.length < sizeLine ∧ G D2 = none ∧ Ex G (upd G' D2 (.lst (acc ++ [V.ref b]))) ∧ ∃ acc3, upd G' D2 (.lst (acc ++ [V.ref b])) D2 = some (.lst acc3) ∧
            Txs (upd G' D2 (.lst (acc ++ [V.ref b]))) acc3 ((L.take n).filter (reach sig) ++ [sx].filter (reach sig)) := fun hy => by
          refine ⟨acc2, hG2, hlen, hD2, Ex.mut e' hD2, acc2 ++ [.ref b], upd_same, ?_⟩
          rw [show [sx].filter (reach sig) = [sx] from by rw [List.filter_cons, hy]; rfl]
          exact (hT2.snoc ⟨b, rfl, hb'⟩).mut hG2
        have no : reach sig sx = false → G D2 = none ∧ Ex G G' ∧ ∃ acc2, G' D2 = some (.lst acc2) ∧ Txs G' acc2 ((L.take n).filter (reach sig) ++ [sx].filter (reach sig)) := fun hn => by
          refine ⟨hD2, e', acc2, hG2, ?_⟩
          rw [show [sx].filter (reach sig) = [] from by rw [List.filter_cons, hn]; rfl, List.append_nil]
          exact hT2
        walk_at "rd"
        cases hh : sx.hi with
        | none =>
          refine iteT (iteT ?_)
          walk_at "rd"
          exact yes (by unfold reach; rw [hh])
        | some g =>
          refine iteF ?_
          have hb2 : G' b = some (.tup [.int sx.lo, .int g, .int sx.num, .int sx.way]) := by rw [hb']; unfold Sx.v; rw [hh]; rfl
          clear hb'
          walk_at "rd"
          cases hr : decide (g ≥ sig) with
          | true =>
            refine iteT ?_
            walk_at "rd"
            exact yes (by unfold reach; rw [hh]; exact hr)
          | false =>
            refine iteF ?_
            exact no (by unfold reach; rw [hh]; exact hr)
      · rintro D2 G' hD2 ⟨_, e', acc2, hG2, hT2⟩
        rw [hT.len, List.take_length] at hT2
        exact good D2 G' (Evl.fresh_back (e123.trans eG) hD2) ((e123.trans eG).trans e') ⟨acc2, hG2, hT2⟩
end
end Kx

set_option Elab.async false
set_option linter.all false
set_option maxRecDepth 100000
set_option maxHeartbeats 4000000
namespace Kx
open PySem PySem.Spec PyProof.Rows L2 HX
/-! ### the stretches of a receiver ascend -/
/-- s ends up to where t begins -/
def Ahead (s t : Sx) : Prop := ∃ g, s.hi = some g ∧ g ≤ t.lo
/-- t lies within s -/
structure Within (s t : Sx) : Prop where
  lo : s.lo ≤ t.lo
  hi : ∀ g, s.hi = some g → ∃ g', t.hi = some g' ∧ g' ≤ g
theorem Ahead.within {s s' t t' : Sx} (h : Ahead s s') (k : Within s t) (k' : Within s' t') : Ahead t t' := by
  obtain ⟨g, e, l⟩ := h
  obtain ⟨g', e', l'⟩ := k.hi g e
  exact ⟨g', e', by have := k'.lo; omega⟩
theorem mix_within {B : Nat} {c : Int} {s t : Sx} (k : In B s) (h : t ∈ mixS c s) : Within s t := by
  unfold mixS at h
  split at h
  · rw [List.mem_singleton.mp h]
    exact ⟨Int.le_refl _, fun g e => ⟨g, e, Int.le_refl _⟩⟩
  · rename_i h0
    split at h
    · rename_i g hg
      split at h
      · rw [List.mem_singleton.mp h]
        exact ⟨Int.le_refl _, fun g' e => ⟨g, rfl, by rw [hg] at e; cases e; exact Int.le_refl _⟩⟩
      · rcases List.mem_cons.mp h with rfl | h
        · exact ⟨Int.le_refl _, fun g' e => ⟨_, rfl, by rw [hg] at e; cases e; omega⟩⟩
        · rw [List.mem_singleton.mp h]
          exact ⟨by dsimp only; omega, fun g' e => ⟨_, rfl, by rw [hg] at e; cases e; omega⟩⟩
    · rename_i hg
      rcases List.mem_cons.mp h with rfl | h
      · exact ⟨Int.le_refl _, fun g' e => by rw [hg] at e; cases e⟩
      · rw [List.mem_singleton.mp h]
        exact ⟨by dsimp only; omega, fun g' e => by rw [hg] at e; cases e⟩
theorem mix_pair {c : Int} {s : Sx} : (mixS c s).Pairwise Ahead := by
  unfold mixS
  split
  · exact List.pairwise_singleton _ _
  · split
    · split
      · exact List.pairwise_singleton _ _
      · refine List.pairwise_cons.mpr ⟨fun t h => ?_, List.pairwise_singleton _ _⟩
        rw [List.mem_singleton.mp h]
        exact ⟨_, rfl, Int.le_refl _⟩
    · refine List.pairwise_cons.mpr ⟨fun t h => ?_, List.pairwise_singleton _ _⟩
      rw [List.mem_singleton.mp h]
      exact ⟨_, rfl, Int.le_refl _⟩
theorem mixer_asc {B : Nat} {c : Int} {ss : List Sx} (k : ∀ s ∈ ss, In B s) (h : ss.Pairwise Ahead) : (behindMixer c ss).Pairwise Ahead := by
  induction ss with
  | nil => exact List.Pairwise.nil
  | cons s ss ih =>
    obtain ⟨h1, h2⟩ := List.pairwise_cons.mp h
    unfold behindMixer at ih ⊢
    rw [List.flatMap_cons, List.pairwise_append]
    refine ⟨mix_pair, ih (fun x hx => k x (List.mem_cons_of_mem _ hx)) h2, fun a ha b hb => ?_⟩
    obtain ⟨s', hs', hb'⟩ := List.mem_flatMap.mp hb
    exact (h1 s' hs').within (mix_within (k s List.mem_cons_self) ha) (mix_within (k s' (List.mem_cons_of_mem _ hs')) hb')
theorem cut_within {s p : Sx} {low h : Int} (e : cutS s low (some h) = some p) : Within s p := by
  unfold cutS at e
  have m : s.lo ≤ mxI s.lo low := by
    show s.lo ≤ (if low > s.lo then low else s.lo)
    split <;> omega
  have top : ∀ g, s.hi = some g → ∃ t, topOf s.hi (some h) = some t ∧ t ≤ g := fun g hg => by
    rw [hg]
    unfold topOf
    dsimp only
    split
    · exact ⟨h, rfl, by omega⟩
    · exact ⟨g, rfl, Int.le_refl _⟩
  generalize topOf s.hi (some h) = o at *
  cases o with
  | none =>
    cases e
    exact ⟨m, fun g hg => by obtain ⟨t, z, _⟩ := top g hg; cases z⟩
  | some l =>
    dsimp only at e
    split at e
    · cases e
    · cases e
      exact ⟨m, fun g hg => by obtain ⟨t, z, w⟩ := top g hg; cases z; exact ⟨l, rfl, w⟩⟩
theorem pass_asc {low high : Int} {ss : List Sx} (h : ss.Pairwise Ahead) : (behindPass low high ss).Pairwise Ahead := by
  have key : ∀ (ss acc : List Sx), ss.Pairwise Ahead → acc.Pairwise Ahead → (∀ a ∈ acc, ∀ s ∈ ss, Ahead a s) → (ss.foldl (passStep low high) acc).Pairwise Ahead := by
    intro ss
    induction ss with
    | nil => intro acc _ h _; exact h
    | cons s ss ih =>
      intro acc h1 h2 h3
      obtain ⟨q1, q2⟩ := List.pairwise_cons.mp h1
      rw [List.foldl_cons]
      unfold passStep
      cases hc : cutN s low high with
      | none => exact ih acc q2 h2 fun a ha x hx => h3 a ha x (List.mem_cons_of_mem _ hx)
      | some p =>
        have wi : Within s p := cut_within hc
        have pa : ∀ a ∈ acc, Ahead a p := fun a ha => by
          obtain ⟨g, e, l⟩ := h3 a ha s List.mem_cons_self
          exact ⟨g, e, by have := wi.lo; omega⟩
        have ps : ∀ x ∈ ss, Ahead p x := fun x hx => by
          obtain ⟨g, e, l⟩ := q1 x hx
          obtain ⟨g', e', l'⟩ := wi.hi g e
          exact ⟨g', e', by omega⟩
        dsimp only
        split
        · exact ih acc q2 h2 fun a ha x hx => h3 a ha x (List.mem_cons_of_mem _ hx)
        · refine ih _ q2 (List.pairwise_append.mpr ⟨h2, List.pairwise_singleton _ _, fun a ha b hb => ?_⟩) fun a ha x hx => ?_
          · rw [List.mem_singleton.mp hb]; exact pa a ha
          · rcases List.mem_append.mp ha with ha | ha
            · exact h3 a ha x (List.mem_cons_of_mem _ hx)
            · rw [List.mem_singleton.mp ha]; exact ps x hx
  exact key ss [] h List.Pairwise.nil fun _ z => nomatch z
theorem str_asc {dial : Int} {B : Nat} : ∀ (ss : List Stg), (∀ s ∈ ss, s.near dial B) → ∀ (acc : List Sx) (C : Nat), B ≤ C → (∀ t ∈ acc, In C t) → acc.Pairwise Ahead → (ss.foldl (strStep dial) acc).Pairwise Ahead
  | [], _, acc, C, _, _, h => h
  | s :: ss, hn, acc, C, hB, k, h => by
    have hs := (hn s List.mem_cons_self).mono hB
    have hn' := fun x hx => hn x (List.mem_cons_of_mem s hx)
    rw [List.foldl_cons]
    cases s with
    | mix lo => exact str_asc ss hn' _ (5 * C) (by omega) (mixer_in k hs) (mixer_asc k h)
    | dial a => exact str_asc ss hn' _ (5 * C) (by omega) (mixer_in k hs) (mixer_asc k h)
    | pass a b => exact str_asc ss hn' _ (5 * C) (by omega) (pass_in k hs.1 hs.2) (pass_asc h)
/-- the slopes of a receiver ascend: each ends up to where the next one begins -/
theorem slopes_asc {dial : Int} {B : Nat} {ss : List Stg} (h : ∀ s ∈ ss, s.near dial B) : (slopesOf dial ss).Pairwise Ahead := by
  have := str_asc ss h [⟨0, none, 0, 1⟩] B (Nat.le_refl _) (fun t ht => by
    rw [List.mem_singleton.mp ht]
    exact ⟨.inl rfl, Nat.zero_le _, Nat.zero_le _, fun g e => (nomatch e), fun _ => rfl⟩) (List.pairwise_singleton _ _)
  exact List.Pairwise.filter _ this
end Kx

set_option Elab.async false
set_option linter.all false
set_option maxRecDepth 100000
set_option maxHeartbeats 4000000
namespace Kx
open PySem PySem.Spec PyProof.Rows L2 HX
/-! ### which folds lie ahead of a number -/
theorem lfold_iff {r y f : Int} (hr : 2 ≤ r) : f ≤ lfold r y ↔ lowF r f ≤ y := by
  refine ⟨low_le hr, fun h => ?_⟩
  have e1 := Int.emod_add_mul_ediv y r
  have t0 := Int.emod_nonneg y (show r ≠ 0 by omega)
  unfold lowF at h
  unfold lfold
  split at h
  · have := (Int.le_ediv_iff_mul_le (show 0 < r by omega)).mpr h
    split <;> omega
  · have hm : f / 2 * r ≤ y := by omega
    have := (Int.le_ediv_iff_mul_le (show 0 < r by omega)).mpr hm
    by_cases eq : f / 2 = y / r
    · have c : y / r * r = r * (y / r) := Int.mul_comm _ _
      rw [eq] at h
      split <;> omega
    · split <;> omega
theorem ffold_iff {r x f : Int} (hr : 2 ≤ r) : ffold r x ≤ f ↔ x ≤ highF r f := by
  refine ⟨high_ge hr, fun h => ?_⟩
  have e1 := Int.emod_add_mul_ediv (x - 1) r
  have t0 := Int.emod_nonneg (x - 1) (show r ≠ 0 by omega)
  have key : (x - 1) / r < f / 2 + 1 := (Int.ediv_lt_iff_lt_mul (show 0 < r by omega)).mpr (by
    rw [Int.add_mul, Int.one_mul]
    unfold highF at h
    split at h <;> omega)
  unfold highF at h
  unfold ffold
  split at h
  · by_cases eq : f / 2 = (x - 1) / r
    · have c : (x - 1) / r * r = r * ((x - 1) / r) := Int.mul_comm _ _
      rw [eq] at h
      split <;> omega
    · split <;> omega
  · split <;> omega
/-- the least signal of a made slope, one way up: k is below the count of the part up to a signal iff the slope begins up to it -/
theorem made_lo_up {s : Sx} {r k : Int} (h : MadeOk s (some r) k) (w : s.way = 1) : (madeS s (some r) k).lo = if s.lo + (lowF r (foldOf s r k) - s.num) > s.lo then s.lo + (lowF r (foldOf s r k) - s.num) else s.lo := by
  obtain ⟨p, hp⟩ := made_cut h
  have hl : (madeS s (some r) k).lo = p.lo := by unfold madeS; dsimp only; rw [hp]
  rw [hl]
  have lh := low_high (f := foldOf s r k) (h.r2 r rfl).1
  unfold cutN at hp
  obtain ⟨c1, _⟩ := cut_lo hp
  rw [c1]
  have e1 : sigOf s (lowF r (foldOf s r k)) = s.lo + (lowF r (foldOf s r k) - s.num) := by unfold sigOf; rw [w]; omega
  have e2 : sigOf s (highF r (foldOf s r k)) = s.lo + (highF r (foldOf s r k) - s.num) := by unfold sigOf; rw [w]; omega
  have m : mnI (sigOf s (lowF r (foldOf s r k))) (sigOf s (highF r (foldOf s r k))) = s.lo + (lowF r (foldOf s r k) - s.num) := by
    rw [e1, e2]
    show (if s.lo + (highF r (foldOf s r k) - s.num) < s.lo + (lowF r (foldOf s r k) - s.num) then _ else _) = _
    rw [if_neg (by omega)]
  rw [m]
end Kx

set_option Elab.async false
set_option linter.all false
set_option maxRecDepth 100000
set_option maxHeartbeats 4000000
namespace Kx
open PySem PySem.Spec PyProof.Rows L2 HX
theorem mn_up {n g l : Int} (h : l < g) : mnI n (n + 1 * (g - l)) = n := by
  show (if n + 1 * (g - l) < n then n + 1 * (g - l) else n) = n
  rw [if_neg (by omega)]
theorem mx_up {n g l : Int} (h : l < g) : mxI n (n + 1 * (g - l)) = n + (g - l) := by
  show (if n + 1 * (g - l) > n then n + 1 * (g - l) else n) = _
  rw [if_pos (by omega)]
  omega
theorem first_up {s : Sx} {r : Int} (w : s.way = 1) (lt : ∀ g, s.hi = some g → s.lo < g) : (foldsA s r).1 = ffold r (s.num + 1) := by
  unfold foldsA
  cases hh : s.hi with
  | none => rfl
  | some g =>
    dsimp only
    unfold endOf
    rw [w, mn_up (lt g hh)]
/-- what a slope that goes up adds to the count -/
theorem step_up {s : Sx} {r wave : Int} (w : s.way = 1) (lt : ∀ g, s.hi = some g → s.lo < g) (s0 : 0 ≤ s.lo) (w0 : 0 ≤ wave) :
    begunStep (some r) wave 0 s = (let l := match s.hi with | none => wave + 1 | some g => if wave + 1 < g then wave + 1 else g
      if l ≤ s.lo then 0 else lfold r (s.num + (l - s.lo) - 1) - ffold r (s.num + 1) + 1) := by
  have mx : mxI s.lo 0 = s.lo := by
    show (if 0 > s.lo then 0 else s.lo) = s.lo
    rw [if_neg (by omega)]
  have top : topOf s.hi (some (wave + 1)) = some (match s.hi with | none => wave + 1 | some g => if wave + 1 < g then wave + 1 else g) := by
    unfold topOf
    cases s.hi with
    | none => rfl
    | some g => dsimp only; split <;> rfl
  generalize (match s.hi with | none => wave + 1 | some g => if wave + 1 < g then wave + 1 else g) = l at *
  dsimp only
  unfold begunStep cutS
  rw [top, mx]
  dsimp only
  by_cases h1 : l < s.lo
  · rw [if_pos h1, if_pos (show l ≤ s.lo by omega)]
  · rw [if_neg h1]
    dsimp only
    by_cases h2 : l = s.lo
    · rw [if_pos (by rw [h2]), if_pos (by omega)]
    · rw [if_neg (by intro z; exact h2 (Option.some.inj z)), if_neg (by omega)]
      unfold countM foldsA endOf
      dsimp only
      rw [w, show s.num + 1 * (s.lo - s.lo) = s.num by omega, mn_up (show s.lo < l by omega), mx_up (show s.lo < l by omega)]
      exact Int.zero_add _
theorem key_up {s : Sx} {r k wave : Int} (h : MadeOk s (some r) k) (w : s.way = 1) (s0 : 0 ≤ s.lo) (w0 : 0 ≤ wave) : (madeS s (some r) k).lo ≤ wave ↔ k < begunStep (some r) wave 0 s := by
  have hr := (h.r2 r rfl).1
  have k0 := h.k0
  have e1 := first_up (r := r) w h.lt
  have ef : foldOf s r k = ffold r (s.num + 1) + k := by unfold foldOf; rw [if_pos w, e1]
  have em := made_lo_up h w
  rw [step_up w h.lt s0 w0]
  -- the fold lies within the slope
  have inn : ∀ g, s.hi = some g → lowF r (foldOf s r k) ≤ s.num + (g - s.lo) - 1 := fun g hg => by
    have hc := h.of _ (show countM s (some r) = some (lfold r (s.num + (g - s.lo) - 1) - ffold r (s.num + 1) + 1) from by
      unfold countM foldsA endOf
      rw [hg]
      dsimp only
      rw [w, mn_up (h.lt g hg), mx_up (h.lt g hg)])
    refine (lfold_iff hr).mp ?_
    rw [ef]
    omega
  have iff : ∀ y, ffold r (s.num + 1) + k ≤ lfold r y ↔ lowF r (foldOf s r k) ≤ y := fun y => by rw [← ef]; exact lfold_iff hr
  generalize lowF r (foldOf s r k) = z at *
  cases hh : s.hi with
  | none =>
    dsimp only
    have i1 := iff (s.num + (wave + 1 - s.lo) - 1)
    rw [em]
    constructor
    · intro a
      split at a
      · rw [if_neg (by omega)]
        have := i1.mpr (by omega)
        omega
      · rw [if_neg (by omega)]
        have := i1.mpr (by omega)
        omega
    · intro a
      split at a
      · omega
      · have := i1.mp (by omega)
        split <;> omega
  | some g =>
    have hg := h.lt g hh
    have ig := inn g hh
    dsimp only
    rw [em]
    by_cases hw : wave + 1 < g
    · rw [if_pos hw]
      have i1 := iff (s.num + (wave + 1 - s.lo) - 1)
      constructor
      · intro a
        split at a
        · rw [if_neg (by omega)]
          have := i1.mpr (by omega)
          omega
        · rw [if_neg (by omega)]
          have := i1.mpr (by omega)
          omega
      · intro a
        split at a
        · omega
        · have := i1.mp (by omega)
          split <;> omega
    · rw [if_neg hw]
      have i1 := (iff (s.num + (g - s.lo) - 1)).mpr ig
      constructor
      · intro _
        rw [if_neg (by omega)]
        omega
      · intro _
        split <;> omega
end Kx

set_option Elab.async false
set_option linter.all false
set_option maxRecDepth 100000
set_option maxHeartbeats 4000000
namespace Kx
open PySem PySem.Spec PyProof.Rows L2 HX
theorem mn_dn {n g l : Int} (h : l < g) : mnI n (n + -1 * (g - l)) = n - (g - l) := by
  show (if n + -1 * (g - l) < n then n + -1 * (g - l) else n) = _
  rw [if_pos (by omega)]
  omega
theorem mx_dn {n g l : Int} (h : l < g) : mxI n (n + -1 * (g - l)) = n := by
  show (if n + -1 * (g - l) > n then n + -1 * (g - l) else n) = n
  rw [if_neg (by omega)]
theorem made_lo_dn {s : Sx} {r k : Int} (h : MadeOk s (some r) k) (w : s.way = -1) : (madeS s (some r) k).lo = if s.lo + (s.num - highF r (foldOf s r k)) > s.lo then s.lo + (s.num - highF r (foldOf s r k)) else s.lo := by
  obtain ⟨p, hp⟩ := made_cut h
  have hl : (madeS s (some r) k).lo = p.lo := by unfold madeS; dsimp only; rw [hp]
  rw [hl]
  have lh := low_high (f := foldOf s r k) (h.r2 r rfl).1
  unfold cutN at hp
  obtain ⟨c1, _⟩ := cut_lo hp
  rw [c1]
  have e1 : sigOf s (lowF r (foldOf s r k)) = s.lo + (s.num - lowF r (foldOf s r k)) := by unfold sigOf; rw [w]; omega
  have e2 : sigOf s (highF r (foldOf s r k)) = s.lo + (s.num - highF r (foldOf s r k)) := by unfold sigOf; rw [w]; omega
  have m : mnI (sigOf s (lowF r (foldOf s r k))) (sigOf s (highF r (foldOf s r k))) = s.lo + (s.num - highF r (foldOf s r k)) := by
    rw [e1, e2]
    show (if s.lo + (s.num - highF r (foldOf s r k)) < s.lo + (s.num - lowF r (foldOf s r k)) then _ else _) = _
    split <;> omega
  rw [m]
/-- what a slope that goes down adds to the count -/
theorem step_dn {s : Sx} {r wave g : Int} (w : s.way = -1) (hg : s.hi = some g) (lt : s.lo < g) (s0 : 0 ≤ s.lo) (w0 : 0 ≤ wave) :
    begunStep (some r) wave 0 s = (if (if wave + 1 < g then wave + 1 else g) ≤ s.lo then 0 else lfold r (s.num - 1) - ffold r (s.num - ((if wave + 1 < g then wave + 1 else g) - s.lo) + 1) + 1) := by
  have mx : mxI s.lo 0 = s.lo := by
    show (if 0 > s.lo then 0 else s.lo) = s.lo
    rw [if_neg (by omega)]
  have top : topOf s.hi (some (wave + 1)) = some (if wave + 1 < g then wave + 1 else g) := by
    unfold topOf
    rw [hg]
    dsimp only
    split <;> rfl
  generalize (if wave + 1 < g then wave + 1 else g) = l at *
  unfold begunStep cutS
  rw [top, mx]
  dsimp only
  by_cases h1 : l < s.lo
  · rw [if_pos h1, if_pos (show l ≤ s.lo by omega)]
  · rw [if_neg h1]
    dsimp only
    by_cases h2 : l = s.lo
    · rw [if_pos (by rw [h2]), if_pos (by omega)]
    · rw [if_neg (by intro z; exact h2 (Option.some.inj z)), if_neg (by omega)]
      unfold countM foldsA endOf
      dsimp only
      rw [w, show s.num + -1 * (s.lo - s.lo) = s.num by omega, mn_dn (show s.lo < l by omega), mx_dn (show s.lo < l by omega)]
      exact Int.zero_add _
theorem key_dn {s : Sx} {r k wave : Int} (h : MadeOk s (some r) k) (w : s.way = -1) (s0 : 0 ≤ s.lo) (w0 : 0 ≤ wave) : (madeS s (some r) k).lo ≤ wave ↔ k < begunStep (some r) wave 0 s := by
  have hr := (h.r2 r rfl).1
  have k0 := h.k0
  obtain ⟨g, hg⟩ : ∃ g, s.hi = some g := by
    cases hh : s.hi with
    | none => have := h.up hh; omega
    | some g => exact ⟨g, rfl⟩
  have lt := h.lt g hg
  have a2 : (foldsA s r).2 = some (lfold r (s.num - 1)) := by
    unfold foldsA endOf
    rw [hg]
    dsimp only
    rw [w, mx_dn lt]
  have a1 : (foldsA s r).1 = ffold r (s.num - (g - s.lo) + 1) := by
    unfold foldsA endOf
    rw [hg]
    dsimp only
    rw [w, mn_dn lt]
  have ef : foldOf s r k = lfold r (s.num - 1) - k := by
    unfold foldOf
    rw [if_neg (by omega), a2]
    rfl
  have em := made_lo_dn h w
  rw [step_dn w hg lt s0 w0]
  have iff : ∀ x, ffold r x ≤ lfold r (s.num - 1) - k ↔ x ≤ highF r (foldOf s r k) := fun x => by rw [← ef]; exact ffold_iff hr
  have inn : s.num - (g - s.lo) + 1 ≤ highF r (foldOf s r k) := by
    have hc := h.of _ (show countM s (some r) = some (lfold r (s.num - 1) - ffold r (s.num - (g - s.lo) + 1) + 1) from by
      unfold countM
      dsimp only
      rw [a2, a1])
    refine (iff _).mp ?_
    omega
  generalize highF r (foldOf s r k) = z at *
  rw [em]
  by_cases hw : wave + 1 < g
  · rw [if_pos hw]
    have i1 := iff (s.num - (wave + 1 - s.lo) + 1)
    constructor
    · intro a
      split at a
      · rw [if_neg (by omega)]
        have := i1.mpr (by omega)
        omega
      · rw [if_neg (by omega)]
        have := i1.mpr (by omega)
        omega
    · intro a
      split at a
      · omega
      · have := i1.mp (by omega)
        split <;> omega
  · rw [if_neg hw]
    have i1 := (iff (s.num - (g - s.lo) + 1)).mpr inn
    constructor
    · intro _
      rw [if_neg (by omega)]
      omega
    · intro _
      split <;> omega
/-- without a sampler a slope is one -/
theorem key_none {s : Sx} {wave : Int} (ok : SlopeOk s) (s0 : 0 ≤ s.lo) (w0 : 0 ≤ wave) : s.lo ≤ wave ↔ 0 < begunStep none wave 0 s := by
  have mx : mxI s.lo 0 = s.lo := by
    show (if 0 > s.lo then 0 else s.lo) = s.lo
    rw [if_neg (by omega)]
  obtain ⟨l, top, l1, l2⟩ : ∃ l, topOf s.hi (some (wave + 1)) = some l ∧ l ≤ wave + 1 ∧ (s.lo ≤ wave → s.lo < l) := by
    unfold topOf
    cases hh : s.hi with
    | none => exact ⟨_, rfl, Int.le_refl _, fun h => by omega⟩
    | some g =>
      have := ok.lt g hh
      dsimp only
      split
      · exact ⟨_, rfl, Int.le_refl _, fun h => by omega⟩
      · exact ⟨_, rfl, by omega, fun _ => this⟩
  unfold begunStep cutS
  rw [top, mx]
  dsimp only
  by_cases h1 : l < s.lo
  · rw [if_pos h1]
    dsimp only
    constructor
    · intro h; have := l2 h; omega
    · intro h; omega
  · rw [if_neg h1]
    dsimp only
    by_cases h2 : l = s.lo
    · rw [if_pos (by rw [h2])]
      constructor
      · intro h; have := l2 h; omega
      · intro h; omega
    · rw [if_neg (by intro z; exact h2 (Option.some.inj z))]
      unfold countM
      dsimp only
      constructor
      · intro _; omega
      · intro _; omega
end Kx

set_option Elab.async false
set_option linter.all false
set_option maxRecDepth 100000
set_option maxHeartbeats 4000000
namespace Kx
open PySem PySem.Spec PyProof.Rows L2 HX
theorem key_one {s : Sx} {rate : Option Int} {k wave : Int} (ok : SlopeOk s) (h : MadeOk s rate k) (s0 : 0 ≤ s.lo) (w0 : 0 ≤ wave) : (madeS s rate k).lo ≤ wave ↔ k < begunStep rate wave 0 s := by
  cases rate with
  | none =>
    have k0 : k = 0 := by
      have := h.of 1 rfl
      have := h.k0
      omega
    rw [k0]
    exact key_none ok s0 w0
  | some r =>
    rcases h.w with w | w
    · exact key_up h w s0 w0
    · exact key_dn h w s0 w0
theorem made_lt {s : Sx} {rate : Option Int} {k g : Int} (ok : SlopeOk s) (h : MadeOk s rate k) (s0 : 0 ≤ s.lo) (hg : s.hi = some g) : (madeS s rate k).lo < g := by
  have lt := ok.lt g hg
  -- all of them have begun ahead of the end
  obtain ⟨c, hc⟩ := count_some hg rate
  have kc := h.of c hc
  cases rate with
  | none => exact lt
  | some r =>
    have := (key_one ok h s0 (show 0 ≤ g - 1 by omega)).mpr (by
      rcases h.w with w | w
      · rw [step_up w h.lt s0 (by omega), hg]
        dsimp only
        rw [show g - 1 + 1 = g by omega, if_neg (show ¬ g < g by omega), if_neg (by omega)]
        have e : countM s (some r) = some (lfold r (s.num + (g - s.lo) - 1) - ffold r (s.num + 1) + 1) := by
          unfold countM foldsA endOf
          rw [hg]
          dsimp only
          rw [w, mn_up lt, mx_up lt]
        rw [e] at hc
        cases hc
        exact kc
      · rw [step_dn w hg lt s0 (by omega), show g - 1 + 1 = g by omega, if_neg (show ¬ g < g by omega), if_neg (by omega)]
        have e : countM s (some r) = some (lfold r (s.num - 1) - ffold r (s.num - (g - s.lo) + 1) + 1) := by
          unfold countM foldsA endOf
          rw [hg]
          dsimp only
          rw [w, mn_dn lt, mx_dn lt]
        rw [e] at hc
        cases hc
        exact kc)
    omega
theorem step_zero {s : Sx} {rate : Option Int} {wave : Int} (s0 : 0 ≤ s.lo) (h : wave < s.lo) : begunStep rate wave 0 s = 0 := by
  have mx : mxI s.lo 0 = s.lo := by
    show (if 0 > s.lo then 0 else s.lo) = s.lo
    rw [if_neg (by omega)]
  obtain ⟨l, top, l1⟩ : ∃ l, topOf s.hi (some (wave + 1)) = some l ∧ l ≤ wave + 1 := by
    unfold topOf
    cases s.hi with
    | none => exact ⟨_, rfl, Int.le_refl _⟩
    | some g =>
      dsimp only
      split
      · exact ⟨_, rfl, Int.le_refl _⟩
      · exact ⟨_, rfl, by omega⟩
  unfold begunStep cutS
  rw [top, mx]
  dsimp only
  by_cases h1 : l < s.lo
  · rw [if_pos h1]
  · rw [if_neg h1]
    dsimp only
    rw [if_pos (by rw [show l = s.lo by omega])]
theorem begun_cons (rate : Option Int) (wave : Int) (s : Sx) (ss : List Sx) : countBegun rate wave (s :: ss) = begunStep rate wave 0 s + countBegun rate wave ss := by
  have := begun_from rate wave ss (begunStep rate wave 0 s)
  unfold countBegun at this ⊢
  rw [List.foldl_cons, this]
theorem begun_zero {rate : Option Int} {wave : Int} : ∀ ss : List Sx, (∀ s ∈ ss, 0 ≤ s.lo ∧ wave < s.lo) → countBegun rate wave ss = 0
  | [], _ => rfl
  | s :: ss, h => by
    obtain ⟨h1, h2⟩ := h s List.mem_cons_self
    rw [begun_cons, step_zero h1 h2, begun_zero ss fun x hx => h x (List.mem_cons_of_mem _ hx)]
    rfl
/-- the slope with an index has begun up to a signal exactly if the index is below the count -/
theorem nth_key {rate : Option Int} {wave : Int} (h2 : ∀ r, rate = some r → 2 ≤ r ∧ Sm r) (w0 : 0 ≤ wave) (wb : wave.natAbs < 2 ^ 1990) : ∀ (ss : List Sx) (i : Int) (t : Sx), (∀ s ∈ ss, SlopeOk s ∧ Bd 1990 s ∧ 0 ≤ s.lo) → ss.Pairwise Ahead → 0 ≤ i → i.natAbs ≤ 2 ^ 2500 → nthS rate ss i = some t →
    (t.lo ≤ wave ↔ i < countBegun rate wave ss)
  | [], _, _, _, _, _, _, h => by cases h
  | s :: ss, i, t, ok, asc, i0, ib, h => by
    obtain ⟨o1, o2, o3⟩ := ok s List.mem_cons_self
    have ok' := fun x hx => ok x (List.mem_cons_of_mem s hx)
    obtain ⟨a1, a2⟩ := List.pairwise_cons.mp asc
    have made : ∀ k, 0 ≤ k → k.natAbs ≤ 2 ^ 2500 → (∀ c, countM s rate = some c → k < c) → MadeOk s rate k := fun k k0 kb of => ⟨o1.w, o1.b, o1.up, o1.lt, h2, k0, kb, of⟩
    obtain ⟨r0, _⟩ := begun_bd h2 wb w0 ss fun x hx => ⟨(ok' x hx).1, (ok' x hx).2.1⟩
    obtain ⟨b0, bb⟩ := step_bd (far := wave) o1 o2 h2 wb w0
    -- behind a slope that has not begun nothing has begun
    have later : ∀ k, MadeOk s rate k → ¬ (madeS s rate k).lo ≤ wave → countBegun rate wave ss = 0 := fun k m nb => by
      refine begun_zero ss fun x hx => ?_
      obtain ⟨g, hg, hl⟩ := a1 x hx
      have := made_lt o1 m o3 hg
      exact ⟨(ok' x hx).2.2, by omega⟩
    rw [begun_cons]
    rw [nthS] at h
    have first : MadeOk s rate i → some (madeS s rate i) = some t → (t.lo ≤ wave ↔ i < begunStep rate wave 0 s + countBegun rate wave ss) := fun m e => by
      cases e
      have key := key_one o1 m o3 w0
      by_cases hb : (madeS s rate i).lo ≤ wave
      · have := key.mp hb
        exact ⟨fun _ => by omega, fun _ => hb⟩
      · have z := later i m hb
        have : ¬ i < begunStep rate wave 0 s := fun q => hb (key.mpr q)
        exact ⟨fun q => absurd q hb, fun q => by omega⟩
    cases hc : countM s rate with
    | none =>
      rw [hc] at h
      exact first (made i i0 ib fun c z => by rw [hc] at z; cases z) h
    | some c =>
      rw [hc] at h
      dsimp only at h
      by_cases lt : i < c
      · rw [if_pos lt] at h
        exact first (made i i0 ib fun c' z => by rw [hc] at z; cases z; exact lt) h
      · rw [if_neg lt] at h
        have c0 := count_nn o1 h2 hc
        have ih := nth_key h2 w0 wb ss (i - c) t ok' a2 (by omega) (by generalize (2 : Nat) ^ 2500 = B at *; omega) h
        have le := begun_le (far := wave) o1 h2 hc
        by_cases eq : begunStep rate wave 0 s = c
        · rw [eq, ih]
          omega
        · have room : (15 : Nat) * 2 ^ 2000 ≤ 2 ^ 2500 := by decide +kernel
          have m := made (begunStep rate wave 0 s) b0 (Nat.le_trans bb room) fun c' z => by rw [hc] at z; cases z; omega
          have nb : ¬ (madeS s rate (begunStep rate wave 0 s)).lo ≤ wave := fun q => by
            have := (key_one o1 m o3 w0).mp q
            omega
          have z := later _ m nb
          rw [z] at ih ⊢
          rw [ih]
          omega
end Kx

set_option Elab.async false
set_option linter.all false
set_option maxRecDepth 100000
set_option maxHeartbeats 4000000
namespace Kx
open PySem PySem.Spec PyProof.Rows L2 HX
/-- where there is no slope with an index, no more have begun, however far -/
theorem nth_none {rate : Option Int} {far i : Int} {ss : List Sx} (h2 : ∀ r, rate = some r → 2 ≤ r ∧ Sm r) (ok : ∀ s ∈ ss, SlopeOk s) (i0 : 0 ≤ i) (h : nthS rate ss i = none) : countBegun rate far ss ≤ i := by
  by_cases lt : i < countBegun rate far ss
  · obtain ⟨t, ht⟩ := nth_some h2 ss i ok lt i0
    rw [h] at ht
    cases ht
  · omega
/-- further away no fewer have begun -/
theorem begun_mono {rate : Option Int} {w v : Int} {ss : List Sx} (h2 : ∀ r, rate = some r → 2 ≤ r ∧ Sm r) (ok : ∀ s ∈ ss, SlopeOk s ∧ Bd 1990 s ∧ 0 ≤ s.lo) (asc : ss.Pairwise Ahead) (len : ss.length ≤ 256) (w0 : 0 ≤ w) (wv : w ≤ v) (wb : w.natAbs < 2 ^ 1990) (vb : v.natAbs < 2 ^ 1990) :
    countBegun rate w ss ≤ countBegun rate v ss := by
  obtain ⟨c0, cb⟩ := begun_bd h2 wb w0 ss fun s hs => ⟨(ok s hs).1, (ok s hs).2.1⟩
  obtain ⟨d0, _⟩ := begun_bd h2 vb (by omega) ss fun s hs => ⟨(ok s hs).1, (ok s hs).2.1⟩
  by_cases z : countBegun rate w ss = 0
  · omega
  · obtain ⟨t, ht⟩ := nth_some (far := w) h2 ss (countBegun rate w ss - 1) (fun s hs => (ok s hs).1) (by omega) (by omega)
    have ib : (countBegun rate w ss - 1).natAbs ≤ 2 ^ 2500 := by
      have := Nat.le_trans cb (begun_room len)
      generalize (2 : Nat) ^ 2500 = B at *
      omega
    have k1 := nth_key h2 w0 wb ss _ t ok asc (by omega) ib ht
    have k2 := nth_key h2 (show 0 ≤ v by omega) vb ss _ t ok asc (by omega) ib ht
    have := k2.mp (by have := k1.mpr (by omega); omega)
    omega
theorem low_next {r f : Int} (hr : 2 ≤ r) : highF r f ≤ lowF r (f + 1) := by
  unfold highF lowF
  by_cases e : f % 2 = 0
  · rw [if_pos e, if_neg (show ¬ (f + 1) % 2 = 0 by omega), show (f + 1) / 2 = f / 2 by omega]
    omega
  · rw [if_neg e, if_pos (show (f + 1) % 2 = 0 by omega), show (f + 1) / 2 = f / 2 + 1 by omega, Int.add_mul, Int.one_mul]
    omega
end Kx

set_option Elab.async false
set_option linter.all false
set_option maxRecDepth 100000
set_option maxHeartbeats 4000000
namespace Kx
open PySem PySem.Spec PyProof.Rows L2 HX
theorem low_mono {r f f' : Int} (hr : 2 ≤ r) (h : f ≤ f') : lowF r f ≤ lowF r f' := (lfold_iff hr).mp (Int.le_trans h ((lfold_iff hr).mpr (Int.le_refl _)))
theorem high_mono {r f f' : Int} (hr : 2 ≤ r) (h : f ≤ f') : highF r f ≤ highF r f' := (ffold_iff hr).mp (Int.le_trans ((ffold_iff hr).mpr (Int.le_refl _)) h)
theorem low_lt {r f : Int} (hr : 2 ≤ r) : lowF r f < highF r f := by
  unfold lowF highF
  split <;> omega
theorem made_strict {s : Sx} {rate : Option Int} {k k' : Int} (h : MadeOk s rate k) (h' : MadeOk s rate k') (lt : k < k') : (madeS s rate k).lo < (madeS s rate k').lo := by
  cases rate with
  | none =>
    have := h'.of 1 rfl
    have := h.k0
    omega
  | some r =>
    have hr := (h.r2 r rfl).1
    have k0 := h.k0
    rcases h.w with w | w
    · rw [made_lo_up h w, made_lo_up h' w]
      have e1 := first_up (r := r) w h.lt
      have ef : foldOf s r k = ffold r (s.num + 1) + k := by unfold foldOf; rw [if_pos w, e1]
      have ef' : foldOf s r k' = ffold r (s.num + 1) + k' := by unfold foldOf; rw [if_pos w, e1]
      have a1 := low_next (f := foldOf s r k) hr
      have a2 := low_mono (f := foldOf s r k + 1) (f' := foldOf s r k') hr (by omega)
      have a3 := low_lt (f := foldOf s r k) hr
      have a4 := (ffold_iff (r := r) (x := s.num + 1) (f := foldOf s r k) hr).mp (by omega)
      split <;> split <;> omega
    · obtain ⟨g, hg⟩ : ∃ g, s.hi = some g := by
        cases hh : s.hi with
        | none => have := h.up hh; omega
        | some g => exact ⟨g, rfl⟩
      have a2 : (foldsA s r).2 = some (lfold r (s.num - 1)) := by
        unfold foldsA endOf
        rw [hg]
        dsimp only
        rw [w, mx_dn (h.lt g hg)]
      have ef : foldOf s r k = lfold r (s.num - 1) - k := by unfold foldOf; rw [if_neg (by omega), a2]; rfl
      have ef' : foldOf s r k' = lfold r (s.num - 1) - k' := by unfold foldOf; rw [if_neg (by omega), a2]; rfl
      rw [made_lo_dn h w, made_lo_dn h' w]
      have b1 := low_next (f := foldOf s r k - 1) hr
      rw [show foldOf s r k - 1 + 1 = foldOf s r k by omega] at b1
      have b2 := high_mono (f := foldOf s r k') (f' := foldOf s r k - 1) hr (by omega)
      have b3 := low_lt (f := foldOf s r k) hr
      have b4 := (lfold_iff (r := r) (y := s.num - 1) (f := foldOf s r k) hr).mp (by omega)
      split <;> split <;> omega
theorem made_ge {s : Sx} {rate : Option Int} {k : Int} (h : MadeOk s rate k) : s.lo ≤ (madeS s rate k).lo := by
  cases rate with
  | none => exact Int.le_refl _
  | some r =>
    rcases h.w with w | w
    · rw [made_lo_up h w]; split <;> omega
    · rw [made_lo_dn h w]; split <;> omega
theorem nth_ge {rate : Option Int} (h2 : ∀ r, rate = some r → 2 ≤ r ∧ Sm r) {g : Int} : ∀ (ss : List Sx) (i : Int) (t : Sx), (∀ s ∈ ss, SlopeOk s ∧ g ≤ s.lo) → 0 ≤ i → i.natAbs ≤ 2 ^ 2500 → nthS rate ss i = some t → g ≤ t.lo
  | [], _, _, _, _, _, h => by cases h
  | s :: ss, i, t, ok, i0, ib, h => by
    obtain ⟨o1, o2⟩ := ok s List.mem_cons_self
    rw [nthS] at h
    have made : (∀ c, countM s rate = some c → i < c) → MadeOk s rate i := fun of => ⟨o1.w, o1.b, o1.up, o1.lt, h2, i0, ib, of⟩
    cases hc : countM s rate with
    | none =>
      rw [hc] at h
      cases h
      exact Int.le_trans o2 (made_ge (made fun c z => by rw [hc] at z; cases z))
    | some c =>
      rw [hc] at h
      dsimp only at h
      by_cases lt : i < c
      · rw [if_pos lt] at h
        cases h
        exact Int.le_trans o2 (made_ge (made fun c' z => by rw [hc] at z; cases z; exact lt))
      · rw [if_neg lt] at h
        have c0 := count_nn o1 h2 hc
        exact nth_ge h2 ss (i - c) t (fun x hx => ok x (List.mem_cons_of_mem _ hx)) (by omega) (by generalize (2 : Nat) ^ 2500 = B at *; omega) h
/-- the slopes begin one behind the other -/
theorem nth_strict {rate : Option Int} (h2 : ∀ r, rate = some r → 2 ≤ r ∧ Sm r) : ∀ (ss : List Sx) (i j : Int) (t u : Sx), (∀ s ∈ ss, SlopeOk s ∧ 0 ≤ s.lo) → ss.Pairwise Ahead → 0 ≤ i → i < j → j.natAbs ≤ 2 ^ 2500 → nthS rate ss i = some t → nthS rate ss j = some u → t.lo < u.lo
  | [], _, _, _, _, _, _, _, _, _, h, _ => by cases h
  | s :: ss, i, j, t, u, ok, asc, i0, ij, jb, h, h' => by
    obtain ⟨o1, o2⟩ := ok s List.mem_cons_self
    have ok' := fun x hx => ok x (List.mem_cons_of_mem s hx)
    obtain ⟨a1, a2⟩ := List.pairwise_cons.mp asc
    have ib : i.natAbs ≤ 2 ^ 2500 := by generalize (2 : Nat) ^ 2500 = B at *; omega
    have made : ∀ k, 0 ≤ k → k.natAbs ≤ 2 ^ 2500 → (∀ c, countM s rate = some c → k < c) → MadeOk s rate k := fun k k0 kb of => ⟨o1.w, o1.b, o1.up, o1.lt, h2, k0, kb, of⟩
    rw [nthS] at h h'
    cases hc : countM s rate with
    | none =>
      rw [hc] at h h'
      cases h
      cases h'
      exact made_strict (made i i0 ib fun c z => by rw [hc] at z; cases z) (made j (by omega) jb fun c z => by rw [hc] at z; cases z) ij
    | some c =>
      rw [hc] at h h'
      dsimp only at h h'
      have c0 := count_nn o1 h2 hc
      by_cases li : i < c
      · rw [if_pos li] at h
        cases h
        have mi := made i i0 ib fun c' z => by rw [hc] at z; cases z; exact li
        by_cases lj : j < c
        · rw [if_pos lj] at h'
          cases h'
          exact made_strict mi (made j (by omega) jb fun c' z => by rw [hc] at z; cases z; exact lj) ij
        · rw [if_neg lj] at h'
          cases hg : s.hi with
          | none =>
            cases ss with
            | nil => cases h'
            | cons x xs =>
              obtain ⟨g, e, _⟩ := a1 x List.mem_cons_self
              rw [hg] at e
              cases e
          | some g =>
            have l1 := made_lt o1 mi o2 hg
            have l2 := nth_ge (g := g) h2 ss (j - c) u (fun x hx => ⟨(ok' x hx).1, by
              obtain ⟨g', e, l⟩ := a1 x hx
              rw [hg] at e
              cases e
              exact l⟩) (by omega) (by generalize (2 : Nat) ^ 2500 = B at *; omega) h'
            omega
      · rw [if_neg li] at h
        rw [if_neg (show ¬ j < c by omega)] at h'
        exact nth_strict h2 ss (i - c) (j - c) t u ok' a2 (by omega) (by omega) (by generalize (2 : Nat) ^ 2500 = B at *; omega) h h'
end Kx

set_option Elab.async false
set_option linter.all false
set_option maxRecDepth 100000
set_option maxHeartbeats 4000000
namespace Kx
open PySem PySem.Spec PyProof.Rows L2 HX
/-! ### slopes, counted and numbered: all that is wanted of a receiver's slopes -/
theorem mixer_lo {B : Nat} {c : Int} {ss : List Sx} (k : ∀ s ∈ ss, In B s) (h : ∀ s ∈ ss, 0 ≤ s.lo) : ∀ t ∈ behindMixer c ss, 0 ≤ t.lo := fun t ht => by
  obtain ⟨s, h1, h2⟩ := List.mem_flatMap.mp ht
  have := (mix_within (k s h1) h2).lo
  have := h s h1
  omega
theorem pass_lo {low high : Int} {ss : List Sx} (h : ∀ s ∈ ss, 0 ≤ s.lo) : ∀ t ∈ behindPass low high ss, 0 ≤ t.lo := by
  have key : ∀ (ss acc : List Sx), (∀ s ∈ ss, 0 ≤ s.lo) → (∀ t ∈ acc, 0 ≤ t.lo) → ∀ t ∈ ss.foldl (passStep low high) acc, 0 ≤ t.lo := by
    intro ss
    induction ss with
    | nil => intro acc _ h; exact h
    | cons s ss ih =>
      intro acc a1 a2
      refine ih _ (fun x hx => a1 x (List.mem_cons_of_mem _ hx)) fun t ht => ?_
      unfold passStep at ht
      split at ht
      · exact a2 t ht
      · rename_i p hp
        split at ht
        · exact a2 t ht
        · rcases List.mem_append.mp ht with ht | ht
          · exact a2 t ht
          · rw [List.mem_singleton.mp ht]
            have := (cut_within (show cutS s _ (some _) = some p from hp)).lo
            have := a1 s List.mem_cons_self
            omega
  exact key ss [] h fun _ z => nomatch z
theorem str_lo {dial : Int} {B : Nat} : ∀ (ss : List Stg), (∀ s ∈ ss, s.near dial B) → ∀ (acc : List Sx) (C : Nat), B ≤ C → (∀ t ∈ acc, In C t) → (∀ t ∈ acc, 0 ≤ t.lo) → ∀ t ∈ ss.foldl (strStep dial) acc, 0 ≤ t.lo
  | [], _, acc, C, _, _, h => h
  | s :: ss, hn, acc, C, hB, k, h => by
    have hs := (hn s List.mem_cons_self).mono hB
    have hn' := fun x hx => hn x (List.mem_cons_of_mem s hx)
    rw [List.foldl_cons]
    cases s with
    | mix lo => exact str_lo ss hn' _ (5 * C) (by omega) (mixer_in k hs) (mixer_lo k h)
    | dial a => exact str_lo ss hn' _ (5 * C) (by omega) (mixer_in k hs) (mixer_lo k h)
    | pass a b => exact str_lo ss hn' _ (5 * C) (by omega) (pass_in k hs.1 hs.2) (pass_lo h)
theorem slopes_lo {dial : Int} {B : Nat} {ss : List Stg} (h : ∀ s ∈ ss, s.near dial B) : ∀ t ∈ slopesOf dial ss, 0 ≤ t.lo := fun t ht => by
  refine str_lo ss h [⟨0, none, 0, 1⟩] B (Nat.le_refl _) (fun t ht => ?_) (fun t ht => ?_) t (List.mem_filter.mp ht).1
  · rw [List.mem_singleton.mp ht]
    exact ⟨.inl rfl, Nat.zero_le _, Nat.zero_le _, fun g e => (nomatch e), fun _ => rfl⟩
  · rw [List.mem_singleton.mp ht]
    exact Int.le_refl _
/-- slopes in their sequence, within bounds, and a right rate -/
structure Gd (rate : Option Int) (S : List Sx) : Prop where
  h2 : ∀ r, rate = some r → 2 ≤ r ∧ Sm r
  ok : ∀ s ∈ S, SlopeOk s ∧ Bd 1990 s ∧ 0 ≤ s.lo
  asc : S.Pairwise Ahead
  len : S.length ≤ 256
theorem gd_of {dial : Int} {B : Nat} {ss : List Stg} {rate : Option Int} (h : ∀ s ∈ ss, s.near dial B) (h8 : ss.length ≤ 8) (hB : 390625 * B < 2 ^ 1990) (h2 : ∀ r, rate = some r → 2 ≤ r ∧ Sm r) : Gd rate (slopesOf dial ss) := by
  refine ⟨h2, fun s hs => ⟨(slopes_ok h h8 hB s hs).1, (slopes_ok h h8 hB s hs).2, slopes_lo h s hs⟩, slopes_asc h, ?_⟩
  have h1 := (str_ok dial ss).2
  have h2 : 2 ^ ss.length ≤ 2 ^ 8 := Nat.pow_le_pow_right (by decide) h8
  have h3 := List.length_filter_le (fun s : Sx => !decide (s.hi = some s.lo)) (strAt dial ss)
  unfold slopesOf
  omega
namespace Gd
variable {rate : Option Int} {S : List Sx} {w i : Int} {t : Sx}
theorem cnt (G : Gd rate S) (w0 : 0 ≤ w) (wb : w.natAbs < 2 ^ 1990) : 0 ≤ countBegun rate w S ∧ (countBegun rate w S).natAbs ≤ 2 ^ 2500 := by
  obtain ⟨c0, cb⟩ := begun_bd G.h2 wb w0 S fun s hs => ⟨(G.ok s hs).1, (G.ok s hs).2.1⟩
  exact ⟨c0, Nat.le_trans cb (begun_room G.len)⟩
theorem some_ (G : Gd rate S) (h : i < countBegun rate w S) (i0 : 0 ≤ i) : ∃ t, nthS rate S i = some t := nth_some G.h2 S i (fun s hs => (G.ok s hs).1) h i0
theorem key (G : Gd rate S) (h : nthS rate S i = some t) (i0 : 0 ≤ i) (ib : i.natAbs ≤ 2 ^ 2500) (w0 : 0 ≤ w) (wb : w.natAbs < 2 ^ 1990) : t.lo ≤ w ↔ i < countBegun rate w S :=
  nth_key G.h2 w0 wb S i t G.ok G.asc i0 ib h
theorem strict (G : Gd rate S) {j : Int} {u : Sx} (h : nthS rate S i = some t) (k : nthS rate S j = some u) (i0 : 0 ≤ i) (ij : i < j) (jb : j.natAbs ≤ 2 ^ 2500) : t.lo < u.lo :=
  nth_strict G.h2 S i j t u (fun s hs => ⟨(G.ok s hs).1, (G.ok s hs).2.2⟩) G.asc i0 ij jb h k
theorem ge0 (G : Gd rate S) (h : nthS rate S i = some t) (i0 : 0 ≤ i) (ib : i.natAbs ≤ 2 ^ 2500) : 0 ≤ t.lo :=
  nth_ge G.h2 S i t (fun s hs => ⟨(G.ok s hs).1, (G.ok s hs).2.2⟩) i0 ib h
theorem at_lo (G : Gd rate S) (h : nthS rate S i = some t) (i0 : 0 ≤ i) (ib : i.natAbs ≤ 2 ^ 2500) (tb : t.lo.natAbs < 2 ^ 1990) : countBegun rate t.lo S = i + 1 := by
  have t0 := G.ge0 h i0 ib
  have k := (G.key h i0 ib t0 tb).mp (Int.le_refl _)
  obtain ⟨c0, cb⟩ := G.cnt t0 tb
  by_cases lt : i + 1 < countBegun rate t.lo S
  · obtain ⟨u, hu⟩ := G.some_ lt (by omega)
    have ib' : (i + 1).natAbs ≤ 2 ^ 2500 := by generalize (2 : Nat) ^ 2500 = B at *; omega
    have s1 := G.strict h hu i0 (by omega) ib'
    have := (G.key hu (by omega) ib' t0 tb).mpr lt
    omega
  · omega
theorem ahead_lo (G : Gd rate S) (h : nthS rate S i = some t) (i0 : 0 ≤ i) (ib : i.natAbs ≤ 2 ^ 2500) (tb : t.lo.natAbs < 2 ^ 1990) (tp : 0 < t.lo) : countBegun rate (t.lo - 1) S = i := by
  have tb' : (t.lo - 1).natAbs < 2 ^ 1990 := by generalize (2 : Nat) ^ 1990 = B at *; omega
  obtain ⟨c0, cb⟩ := G.cnt (show 0 ≤ t.lo - 1 by omega) tb'
  have k := G.key h i0 ib (show 0 ≤ t.lo - 1 by omega) tb'
  have k1 : ¬ i < countBegun rate (t.lo - 1) S := fun z => by have := k.mpr z; omega
  by_cases z : i = 0
  · omega
  · have m := (G.key h i0 ib (by omega) tb).mp (Int.le_refl _)
    obtain ⟨u, hu⟩ := G.some_ (w := t.lo) (i := i - 1) (by omega) (by omega)
    have s1 := G.strict hu h (by omega) (by omega) ib
    have := (G.key hu (by omega) (by generalize (2 : Nat) ^ 2500 = B at *; omega) (show 0 ≤ t.lo - 1 by omega) tb').mp (by omega)
    omega
/-- no more slopes have begun than there are signals -/
theorem le (G : Gd rate S) (w0 : 0 ≤ w) (wb : w.natAbs < 2 ^ 1990) : countBegun rate w S ≤ w + 1 := by
  obtain ⟨c0, cb⟩ := G.cnt w0 wb
  have step : ∀ n : Nat, (n : Int) < countBegun rate w S → ∀ t, nthS rate S n = some t → (n : Int) ≤ t.lo := by
    intro n
    induction n with
    | zero => intro h t ht; exact G.ge0 ht (Int.le_refl _) (Nat.zero_le _)
    | succ n ih =>
      intro h t ht
      obtain ⟨u, hu⟩ := G.some_ (w := w) (i := n) (by omega) (by omega)
      have s1 := G.strict hu ht (by omega) (by omega) (by generalize (2 : Nat) ^ 2500 = B at *; omega)
      have := ih (by omega) u hu
      omega
  by_cases z : countBegun rate w S = 0
  · omega
  · obtain ⟨n, hn⟩ : ∃ n : Nat, countBegun rate w S = n + 1 := ⟨(countBegun rate w S - 1).toNat, by omega⟩
    obtain ⟨u, hu⟩ := G.some_ (w := w) (i := n) (by omega) (by omega)
    have := step n (by omega) u hu
    have := (G.key hu (by omega) (by generalize (2 : Nat) ^ 2500 = B at *; omega) w0 wb).mpr (by omega)
    omega
end Gd
/-! ### how large a slope's numbers are -/
theorem nth_mem {rate : Option Int} (h2 : ∀ r, rate = some r → 2 ≤ r ∧ Sm r) : ∀ (ss : List Sx) (i : Int) (t : Sx), (∀ s ∈ ss, SlopeOk s) → 0 ≤ i → i.natAbs ≤ 2 ^ 2500 → nthS rate ss i = some t → ∃ s ∈ ss, ∃ k, k ≤ i ∧ MadeOk s rate k ∧ t = madeS s rate k
  | [], _, _, _, _, _, h => by cases h
  | s :: ss, i, t, ok, i0, ib, h => by
    have o1 := ok s List.mem_cons_self
    rw [nthS] at h
    have made : (∀ c, countM s rate = some c → i < c) → MadeOk s rate i := fun of => ⟨o1.w, o1.b, o1.up, o1.lt, h2, i0, ib, of⟩
    cases hc : countM s rate with
    | none =>
      rw [hc] at h
      cases h
      exact ⟨s, List.mem_cons_self, i, Int.le_refl _, made (fun c z => by rw [hc] at z; cases z), rfl⟩
    | some c =>
      rw [hc] at h
      dsimp only at h
      by_cases lt : i < c
      · rw [if_pos lt] at h
        cases h
        exact ⟨s, List.mem_cons_self, i, Int.le_refl _, made (fun c' z => by rw [hc] at z; cases z; exact lt), rfl⟩
      · rw [if_neg lt] at h
        have c0 := count_nn o1 h2 hc
        obtain ⟨s', hs', k, hk, m, e⟩ := nth_mem h2 ss (i - c) t (fun x hx => ok x (List.mem_cons_of_mem _ hx)) (by omega) (by generalize (2 : Nat) ^ 2500 = B at *; omega) h
        exact ⟨s', List.mem_cons_of_mem _ hs', k, by omega, m, e⟩
/-- the numbers of a slope, all below 2 ** n -/
structure Lit (n : Nat) (t : Sx) : Prop where
  lo : t.lo.natAbs < 2 ^ n
  hi : ∀ g, t.hi = some g → g.natAbs < 2 ^ n
  num : t.num.natAbs < 2 ^ n
  way : Wy t
theorem wayF_one (f : Int) : wayF f = 1 ∨ wayF f = -1 := by
  unfold wayF
  split
  · exact .inl rfl
  · exact .inr rfl
theorem low_bd {r f : Int} {F R : Nat} (hr : 2 ≤ r) (hf : f.natAbs ≤ F) (h : r.natAbs ≤ R) : (lowF r f).natAbs ≤ (F + 1) * R + R ∧ (highF r f).natAbs ≤ (F + 1) * R + R := by
  have h1 : (f / 2).natAbs ≤ F + 1 := by omega
  have h2 : (f / 2 * r).natAbs ≤ (F + 1) * R := by
    rw [Int.natAbs_mul]
    exact Nat.mul_le_mul h1 h
  unfold lowF highF
  generalize f / 2 * r = x at *
  generalize (F + 1) * R = y at *
  constructor <;> split <;> omega
theorem made_lit {s : Sx} {rate : Option Int} {k : Int} (i : In (2 ^ 200) s) (m : MadeOk s rate k) (hr : ∀ r, rate = some r → r.natAbs ≤ 2 ^ 150) (kb : k ≤ 2 ^ 200) : Lit 590 (madeS s rate k) := by
  have e200 : (2 : Nat) ^ 200 < 2 ^ 590 := Nat.pow_lt_pow_right (by decide) (by decide)
  cases rate with
  | none => exact ⟨Nat.lt_of_le_of_lt i.lo e200, fun g e => Nat.lt_of_le_of_lt (i.hi g e).1 e200, Nat.lt_of_le_of_lt i.num e200, i.w⟩
  | some r =>
    obtain ⟨p, hp⟩ := made_cut m
    have h2 := (m.r2 r rfl).1
    have k0 := m.k0
    have kb' : k.natAbs ≤ 2 ^ 200 := by
      have : (2 : Int) ^ 200 = ((2 ^ 200 : Nat) : Int) := by decide +kernel
      rw [this] at kb
      generalize (2 : Nat) ^ 200 = B at *
      omega
    have fb : (foldOf s r k).natAbs ≤ 2 ^ 210 := by
      have e1 : 7 * 2 ^ 200 + 100 + 2 ^ 200 ≤ (2 : Nat) ^ 210 := by decide +kernel
      have hn := i.num
      have hl := i.lo
      have f1 : (foldsA s r).1.natAbs ≤ 7 * 2 ^ 200 + 100 ∧ ∀ l, (foldsA s r).2 = some l → l.natAbs ≤ 7 * 2 ^ 200 + 100 := by
        unfold foldsA
        cases hh : s.hi with
        | none =>
          dsimp only
          have := ffold_bd r (s.num + 1)
          refine ⟨?_, fun l z => nomatch z⟩
          generalize (2 : Nat) ^ 200 = B at *
          omega
        | some g =>
          have hg := (i.hi g hh).1
          dsimp only
          have t1 := ffold_bd r (mnI s.num (endOf s g) + 1)
          have t2 := lfold_bd r (mxI s.num (endOf s g) - 1)
          have m0 : (endOf s g).natAbs ≤ 3 * 2 ^ 200 := by
            unfold endOf
            generalize (2 : Nat) ^ 200 = B at *
            rcases i.w with w | w <;> rw [w] <;> omega
          have m1 : (mnI s.num (endOf s g)).natAbs ≤ 3 * 2 ^ 200 := by
            generalize (2 : Nat) ^ 200 = B at *
            show (if endOf s g < s.num then endOf s g else s.num).natAbs ≤ _
            split <;> omega
          have m2 : (mxI s.num (endOf s g)).natAbs ≤ 3 * 2 ^ 200 := by
            generalize (2 : Nat) ^ 200 = B at *
            show (if endOf s g > s.num then endOf s g else s.num).natAbs ≤ _
            split <;> omega
          refine ⟨?_, fun l z => ?_⟩
          · generalize (2 : Nat) ^ 200 = B at *
            omega
          · cases z
            generalize (2 : Nat) ^ 200 = B at *
            omega
      unfold foldOf
      generalize (2 : Nat) ^ 210 = D at *
      generalize (2 : Nat) ^ 200 = B at *
      split
      · omega
      · cases hl2 : (foldsA s r).2 with
        | none => rw [Option.getD_none]; omega
        | some l => have := f1.2 l hl2; rw [Option.getD_some]; omega
    obtain ⟨l1, l2⟩ := low_bd (f := foldOf s r k) h2 fb (hr r rfl)
    have e2 : (2 ^ 210 + 1) * 2 ^ 150 + 2 ^ 150 ≤ (2 : Nat) ^ 500 := by decide +kernel
    have ii : In (2 ^ 500) s := i.mono (Nat.pow_le_pow_right (by decide) (by decide))
    have q := cut_in ii (Nat.le_trans l1 e2) (Nat.le_trans l2 e2) hp
    have e3 : 5 * 2 ^ 500 < (2 : Nat) ^ 590 := by decide +kernel
    unfold madeS
    dsimp only
    rw [hp]
    dsimp only
    refine ⟨Nat.lt_of_le_of_lt q.lo e3, fun g e => Nat.lt_of_le_of_lt (q.hi g e).1 e3, ?_, ?_⟩
    · have hb := hr r rfl
      have e4 : (2 : Nat) ^ 150 < 2 ^ 590 := Nat.pow_lt_pow_right (by decide) (by decide)
      have a0 := Int.emod_nonneg p.num (show r ≠ 0 by omega)
      have a1 := Int.emod_lt_of_pos p.num (show 0 < r by omega)
      unfold sampI
      generalize (2 : Nat) ^ 150 = A at *
      generalize (2 : Nat) ^ 590 = C at *
      dsimp only
      split <;> omega
    · rcases q.w with w | w <;> rcases wayF_one (foldOf s r k) with z | z <;> (unfold Wy; dsimp only; rw [w, z]; decide)
theorem nth_lit {dial i : Int} {ss : List Stg} {rate : Option Int} {t : Sx} (h : ∀ s ∈ ss, s.near dial (2 ^ 140)) (h8 : ss.length ≤ 8) (h2 : ∀ r, rate = some r → 2 ≤ r ∧ r.natAbs ≤ 2 ^ 150) (i0 : 0 ≤ i) (ib : i ≤ 2 ^ 200) (e : nthS rate (slopesOf dial ss) i = some t) : Lit 590 t := by
  have sm : ∀ r, rate = some r → 2 ≤ r ∧ Sm r := fun r hr => ⟨(h2 r hr).1, Nat.lt_of_le_of_lt (h2 r hr).2 (Nat.pow_lt_pow_right (by decide) (by decide))⟩
  have ok := slopes_ok h h8 (by decide +kernel)
  have ib' : i.natAbs ≤ 2 ^ 2500 := by
    have e1 : (2 : Int) ^ 200 = ((2 ^ 200 : Nat) : Int) := by decide +kernel
    have e2 : (2 : Nat) ^ 200 ≤ 2 ^ 2500 := Nat.pow_le_pow_right (by decide) (by decide)
    rw [e1] at ib
    generalize (2 : Nat) ^ 200 = B at *
    generalize (2 : Nat) ^ 2500 = C at *
    omega
  obtain ⟨s, hs, k, hk, m, rfl⟩ := nth_mem sm _ i t (fun s hs => (ok s hs).1) i0 ib' e
  have hin := strAt_in h h8 s (List.mem_filter.mp hs).1
  exact made_lit (hin.mono (by decide +kernel)) m (fun r hr => (h2 r hr).2) (Int.le_trans hk ib)
end Kx

set_option Elab.async false
set_option linter.all false
set_option maxRecDepth 100000
set_option maxHeartbeats 4000000
namespace Kx
open PySem PySem.Spec PyProof.Rows L2 HX
/-! ### stretches and the tones: which signals, which numbers -/
def inS (s : Sx) (x : Int) : Prop := s.lo ≤ x ∧ ∀ g, s.hi = some g → x ≤ g
def valS (s : Sx) (x : Int) : Int := s.num + s.way * (x - s.lo)
/-- t is not a signal alone -/
def Long (t : Sx) : Prop := ¬ t.hi = some t.lo
/-- one ahead of the other; where they touch, the way turns -/
structure Nx (s t : Sx) : Prop where
  ah : Ahead s t
  alt : s.hi = some t.lo → Long s → Long t → s.way ≠ t.way
structure Cov (f : Int → Option Int) (L : List Sx) : Prop where
  w : ∀ s ∈ L, Wy s
  lo : ∀ s ∈ L, 0 ≤ s.lo
  ord : ∀ s ∈ L, ∀ g, s.hi = some g → s.lo ≤ g
  up : ∀ s ∈ L, s.hi = none → s.way = 1
  val : ∀ s ∈ L, ∀ x, inS s x → f x = some (valS s x)
  all : ∀ x, 0 ≤ x → ∀ n, f x = some n → ∃ s ∈ L, inS s x
  two : ∀ x, 0 ≤ x → ∀ n m, f x = some n → f (x + 1) = some m → ∃ s ∈ L, inS s x ∧ inS s (x + 1)
  nx : L.Pairwise Nx
/-- a piece of a mixed stretch -/
theorem mix_piece {c : Int} {s t : Sx} (w : Wy s) (o : ∀ g, s.hi = some g → s.lo ≤ g) (u : s.hi = none → s.way = 1) (h : t ∈ mixS c s) :
    Wy t ∧ s.lo ≤ t.lo ∧ (∀ g, t.hi = some g → t.lo ≤ g) ∧ (t.hi = none → t.way = 1) ∧ (∀ x, inS t x → inS s x ∧ valS t x = absI (valS s x - c)) ∧
      (t.way = 1 → sigOf s c ≤ t.lo) ∧ (t.way = -1 → ∀ g, t.hi = some g → g ≤ sigOf s c) := by
  have n1 : ¬ (1 : Int) = -1 := by decide
  have n2 : ¬ (-1 : Int) = 1 := by decide
  unfold mixS at h
  have key : ∀ x, valS s x - c = s.way * (x - sigOf s c) := fun x => by
    unfold valS sigOf
    rcases w with w | w <;> rw [w] <;> omega
  split at h
  · rename_i h0
    rw [List.mem_singleton.mp h]
    refine ⟨.inl rfl, Int.le_refl _, o, fun _ => rfl, fun x hx => ⟨hx, ?_⟩, fun _ => h0, fun z => absurd z n1⟩
    obtain ⟨x0, _⟩ := hx
    have x0' : s.lo ≤ x := x0
    have e1 := key s.lo
    rw [show valS s s.lo = s.num from by unfold valS; rw [Int.sub_self, Int.mul_zero, Int.add_zero]] at e1
    rw [key x]
    unfold valS absI
    dsimp only
    rw [e1]
    rcases w with w | w <;> rw [w] <;> split <;> split <;> omega
  · rename_i h0
    have lo0 : valS s s.lo = s.num := by unfold valS; rw [Int.sub_self, Int.mul_zero, Int.add_zero]
    have e1 := key s.lo
    rw [lo0] at e1
    have downv : ∀ (hi : Option Int) (x : Int), s.lo ≤ x → x ≤ sigOf s c → valS ⟨s.lo, hi, absI (s.num - c), -1⟩ x = absI (valS s x - c) := fun hi x x0 x1 => by
      rw [key x]
      unfold valS absI
      dsimp only
      rw [e1]
      rcases w with w | w <;> rw [w] <;> split <;> split <;> omega
    have upv : ∀ (hi : Option Int) (x : Int), sigOf s c ≤ x → valS ⟨sigOf s c, hi, 0, 1⟩ x = absI (valS s x - c) := fun hi x x0 => by
      rw [key x]
      unfold valS absI
      dsimp only
      rcases w with w | w <;> rw [w] <;> split <;> omega
    split at h
    · rename_i g hg
      split at h
      · rename_i h1
        rw [List.mem_singleton.mp h]
        refine ⟨.inr rfl, Int.le_refl _, fun g' e => (by cases e; exact o g hg), (fun z => nomatch z), fun x hx => ?_, fun z => absurd z n2, fun _ g' e => by cases e; exact h1⟩
        have x0 : s.lo ≤ x := hx.1
        have x1 := hx.2 g rfl
        exact ⟨⟨x0, fun g' e => by rw [hg] at e; cases e; exact x1⟩, downv _ x x0 (by omega)⟩
      · rename_i h1
        rcases List.mem_cons.mp h with rfl | h
        · refine ⟨.inr rfl, Int.le_refl _, fun g' e => (by cases e; dsimp only; omega), (fun z => nomatch z), fun x hx => ?_, fun z => absurd z n2, fun _ g' e => by cases e; exact Int.le_refl _⟩
          have x0 : s.lo ≤ x := hx.1
          have x1 := hx.2 _ rfl
          exact ⟨⟨x0, fun g' e => by rw [hg] at e; cases e; omega⟩, downv _ x x0 x1⟩
        · rw [List.mem_singleton.mp h]
          refine ⟨.inl rfl, by dsimp only; omega, fun g' e => (by cases e; dsimp only; omega), (fun z => nomatch z), fun x hx => ?_, fun _ => Int.le_refl _, fun z => absurd z n1⟩
          have x0 : sigOf s c ≤ x := hx.1
          have x1 := hx.2 g rfl
          exact ⟨⟨by omega, fun g' e => by rw [hg] at e; cases e; exact x1⟩, upv _ x x0⟩
    · rename_i hg
      rcases List.mem_cons.mp h with rfl | h
      · refine ⟨.inr rfl, Int.le_refl _, fun g' e => (by cases e; dsimp only; omega), (fun z => nomatch z), fun x hx => ?_, fun z => absurd z n2, fun _ g' e => by cases e; exact Int.le_refl _⟩
        have x0 : s.lo ≤ x := hx.1
        have x1 := hx.2 _ rfl
        exact ⟨⟨x0, fun g' e => by rw [hg] at e; cases e⟩, downv _ x x0 x1⟩
      · rw [List.mem_singleton.mp h]
        refine ⟨.inl rfl, by dsimp only; omega, (fun g' e => nomatch e), fun _ => rfl, fun x hx => ?_, fun _ => Int.le_refl _, fun z => absurd z n1⟩
        have x0 : sigOf s c ≤ x := hx.1
        exact ⟨⟨by omega, fun g' e => by rw [hg] at e; cases e⟩, upv _ x x0⟩
/-- every two neighbours of a stretch, and every signal of it, lie in a piece -/
theorem mix_has {c : Int} {s : Sx} (o : ∀ g, s.hi = some g → s.lo ≤ g) : (∀ x, inS s x → ∃ t ∈ mixS c s, inS t x) ∧ (∀ x, inS s x → inS s (x + 1) → ∃ t ∈ mixS c s, inS t x ∧ inS t (x + 1)) := by
  unfold mixS
  split
  · exact ⟨fun x hx => ⟨_, List.mem_singleton.mpr rfl, hx⟩, fun x hx hy => ⟨_, List.mem_singleton.mpr rfl, hx, hy⟩⟩
  · rename_i h0
    split
    · rename_i g hg
      split
      · have tr : ∀ x, inS s x → inS ⟨s.lo, some g, absI (s.num - c), -1⟩ x := fun x hx => ⟨hx.1, fun g' e => by cases e; exact hx.2 g hg⟩
        exact ⟨fun x hx => ⟨_, List.mem_singleton.mpr rfl, tr x hx⟩, fun x hx hy => ⟨_, List.mem_singleton.mpr rfl, tr _ hx, tr _ hy⟩⟩
      · have d : ∀ x, inS s x → x ≤ sigOf s c → inS ⟨s.lo, some (sigOf s c), absI (s.num - c), -1⟩ x := fun x hx h => ⟨hx.1, fun g' e => by cases e; exact h⟩
        have u : ∀ x, inS s x → sigOf s c ≤ x → inS ⟨sigOf s c, some g, 0, 1⟩ x := fun x hx h => ⟨h, fun g' e => by cases e; exact hx.2 g hg⟩
        refine ⟨fun x hx => ?_, fun x hx hy => ?_⟩
        · by_cases z : x ≤ sigOf s c
          · exact ⟨_, List.mem_cons_self, d x hx z⟩
          · exact ⟨_, List.mem_cons_of_mem _ List.mem_cons_self, u x hx (by omega)⟩
        · by_cases z : x + 1 ≤ sigOf s c
          · exact ⟨_, List.mem_cons_self, d x hx (by omega), d _ hy z⟩
          · exact ⟨_, List.mem_cons_of_mem _ List.mem_cons_self, u x hx (by omega), u _ hy (by omega)⟩
    · rename_i hg
      have d : ∀ x, inS s x → x ≤ sigOf s c → inS ⟨s.lo, some (sigOf s c), absI (s.num - c), -1⟩ x := fun x hx h => ⟨hx.1, fun g' e => by cases e; exact h⟩
      have u : ∀ x, inS s x → sigOf s c ≤ x → inS ⟨sigOf s c, none, 0, 1⟩ x := fun x hx h => ⟨h, fun g' e => nomatch e⟩
      refine ⟨fun x hx => ?_, fun x hx hy => ?_⟩
      · by_cases z : x ≤ sigOf s c
        · exact ⟨_, List.mem_cons_self, d x hx z⟩
        · exact ⟨_, List.mem_cons_of_mem _ List.mem_cons_self, u x hx (by omega)⟩
      · by_cases z : x + 1 ≤ sigOf s c
        · exact ⟨_, List.mem_cons_self, d x hx (by omega), d _ hy z⟩
        · exact ⟨_, List.mem_cons_of_mem _ List.mem_cons_self, u x hx (by omega), u _ hy (by omega)⟩
theorem mix_nx {c : Int} {s : Sx} : (mixS c s).Pairwise Nx := by
  have one : ∀ t : Sx, [t].Pairwise Nx := fun t => List.pairwise_singleton _ _
  have ne : (-1 : Int) ≠ 1 := by decide
  unfold mixS
  split
  · exact one _
  · split
    · split
      · exact one _
      · refine List.pairwise_cons.mpr ⟨fun t h => ?_, one _⟩
        rw [List.mem_singleton.mp h]
        exact ⟨⟨_, rfl, Int.le_refl _⟩, fun _ _ _ => ne⟩
    · refine List.pairwise_cons.mpr ⟨fun t h => ?_, one _⟩
      rw [List.mem_singleton.mp h]
      exact ⟨⟨_, rfl, Int.le_refl _⟩, fun _ _ _ => ne⟩
theorem long_of {t : Sx} {g : Int} (h : Long t) (e : t.hi = some g) (o : t.lo ≤ g) : t.lo < g := by
  have : t.lo ≠ g := fun z => h (by rw [e, z])
  omega
/-- pieces of two stretches, one ahead of the other -/
theorem mix_cross {f : Int → Option Int} {c : Int} {s s' t t' : Sx} (w : Wy s) (w' : Wy s') (o : ∀ g, s.hi = some g → s.lo ≤ g) (o' : ∀ g, s'.hi = some g → s'.lo ≤ g) (u : s.hi = none → s.way = 1) (u' : s'.hi = none → s'.way = 1)
    (v : ∀ x, inS s x → f x = some (valS s x)) (v' : ∀ x, inS s' x → f x = some (valS s' x)) (h : Nx s s') (ht : t ∈ mixS c s) (ht' : t' ∈ mixS c s') : Nx t t' := by
  obtain ⟨p1, p2, p3, p4, p5, p6, p7⟩ := mix_piece w o u ht
  obtain ⟨q1, q2, q3, q4, q5, q6, q7⟩ := mix_piece w' o' u' ht'
  obtain ⟨g, hg, hl⟩ := h.ah
  -- the end of t lies within s
  have tend : ∃ e, t.hi = some e ∧ e ≤ g := by
    cases he : t.hi with
    | none =>
      exfalso
      have i1 : inS t (g + 1 + (if t.lo > g then t.lo - g else 0)) := ⟨by split <;> omega, fun _ z => by rw [he] at z; cases z⟩
      have := (p5 _ i1).1.2 g hg
      split at this <;> omega
    | some e =>
      have i1 : inS t e := ⟨p3 e he, fun e' z => by rw [he] at z; cases z; exact Int.le_refl _⟩
      exact ⟨e, rfl, (p5 e i1).1.2 g hg⟩
  obtain ⟨e, he, hle⟩ := tend
  refine ⟨⟨e, he, by omega⟩, fun touch lt lt' => ?_⟩
  rw [he] at touch
  cases touch
  -- all four ends are one
  have e1 : t'.lo = g := by omega
  have e2 : s'.lo = g := by omega
  have i1 : inS t g := ⟨by have := p3 _ he; omega, fun z hz => by rw [he] at hz; cases hz; omega⟩
  have tl := long_of lt he (p3 _ he)
  have ls : Long s := fun z => by
    rw [hg] at z
    have : s.lo = g := by cases z; rfl
    omega
  have i2 : inS t' (g + 1) := ⟨by omega, fun z hz => by have := long_of lt' hz (q3 z hz); omega⟩
  have i3 := (q5 _ i2).1
  have ls' : Long s' := fun z => by
    have := i3.2 _ z
    omega
  have ww := h.alt (by rw [hg, e2]) ls ls'
  have sg : inS s g := (p5 g i1).1
  have sg' : inS s' g := ⟨by omega, fun z hz => by have := i3.2 z hz; omega⟩
  have vv : valS s g = valS s' g := Option.some.inj ((v g sg).symm.trans (v' g sg'))
  -- where the center lies
  intro same
  have t1 : t.way = 1 → sigOf s c < g := fun z => by
    have := p6 z
    omega
  have t2 : t.way = -1 → g ≤ sigOf s c := fun z => by have := p7 z _ he; omega
  have t3 : t'.way = 1 → sigOf s' c ≤ g := fun z => by have := q6 z; omega
  have t4 : t'.way = -1 → g < sigOf s' c := fun z => by
    cases hh : t'.hi with
    | none => rw [q4 hh] at z; cases z
    | some k =>
      have := q7 z k hh
      have := long_of lt' hh (q3 k hh)
      omega
  unfold sigOf at t1 t2 t3 t4
  unfold valS at vv
  rw [e2] at vv t3 t4
  rcases p1 with a | a <;> rcases q1 with b | b <;> rcases w with x | x <;> rcases w' with y | y <;> rw [x, y] at vv <;> first
    | (rw [x, y] at ww; exact ww rfl)
    | (rw [a, b] at same; exact absurd same (by decide))
    | (have k1 := t1 a; have k3 := t3 b; rw [x] at k1; rw [y] at k3; omega)
    | (have k1 := t2 a; have k3 := t4 b; rw [x] at k1; rw [y] at k3; omega)
theorem cov_mixer {f : Int → Option Int} {c : Int} {L : List Sx} (C : Cov f L) : Cov (fun x => (f x).map fun n => absI (n - c)) (behindMixer c L) := by
  have P := fun s hs t (ht : t ∈ mixS c s) => mix_piece (C.w s hs) (C.ord s hs) (C.up s hs) ht
  refine ⟨fun t ht => ?_, fun t ht => ?_, fun t ht => ?_, fun t ht => ?_, fun t ht x hx => ?_, fun x x0 n hn => ?_, fun x x0 n m hn hm => ?_, ?_⟩
  · obtain ⟨s, hs, h⟩ := List.mem_flatMap.mp ht
    exact (P s hs t h).1
  · obtain ⟨s, hs, h⟩ := List.mem_flatMap.mp ht
    have := (P s hs t h).2.1
    have := C.lo s hs
    omega
  · obtain ⟨s, hs, h⟩ := List.mem_flatMap.mp ht
    exact (P s hs t h).2.2.1
  · obtain ⟨s, hs, h⟩ := List.mem_flatMap.mp ht
    exact (P s hs t h).2.2.2.1
  · obtain ⟨s, hs, h⟩ := List.mem_flatMap.mp ht
    obtain ⟨i, e⟩ := (P s hs t h).2.2.2.2.1 x hx
    rw [C.val s hs x i, e]
    rfl
  · obtain ⟨n', h1, _⟩ := Option.map_eq_some_iff.mp hn
    obtain ⟨s, hs, hi⟩ := C.all x x0 n' h1
    obtain ⟨t, ht, h⟩ := (mix_has (c := c) (C.ord s hs)).1 x hi
    exact ⟨t, List.mem_flatMap.mpr ⟨s, hs, ht⟩, h⟩
  · obtain ⟨n', h1, _⟩ := Option.map_eq_some_iff.mp hn
    obtain ⟨m', h2, _⟩ := Option.map_eq_some_iff.mp hm
    obtain ⟨s, hs, hi, hj⟩ := C.two x x0 n' m' h1 h2
    obtain ⟨t, ht, h⟩ := (mix_has (c := c) (C.ord s hs)).2 x hi hj
    exact ⟨t, List.mem_flatMap.mpr ⟨s, hs, ht⟩, h⟩
  · have key : ∀ M : List Sx, (∀ s ∈ M, s ∈ L) → M.Pairwise Nx → (behindMixer c M).Pairwise Nx := by
      intro M
      induction M with
      | nil => intro _ _; exact List.Pairwise.nil
      | cons s M ih =>
        intro sub h
        obtain ⟨h1, h2⟩ := List.pairwise_cons.mp h
        have hs := sub s List.mem_cons_self
        unfold behindMixer at ih ⊢
        rw [List.flatMap_cons, List.pairwise_append]
        refine ⟨mix_nx, ih (fun x hx => sub x (List.mem_cons_of_mem _ hx)) h2, fun a ha b hb => ?_⟩
        obtain ⟨s', hs', hb'⟩ := List.mem_flatMap.mp hb
        have hs2 := sub s' (List.mem_cons_of_mem _ hs')
        exact mix_cross (C.w s hs) (C.w s' hs2) (C.ord s hs) (C.ord s' hs2) (C.up s hs) (C.up s' hs2) (C.val s hs) (C.val s' hs2) (h1 s' hs') ha hb'
    exact key L (fun _ h => h) C.nx
end Kx

set_option Elab.async false
set_option linter.all false
set_option maxRecDepth 100000
set_option maxHeartbeats 4000000
namespace Kx
open PySem PySem.Spec PyProof.Rows L2 HX
/-! ### a pass -/
theorem cutS_all {s : Sx} {a b : Int} (o : ∀ g, s.hi = some g → s.lo ≤ g) :
    (∀ p, cutS s a (some b) = some p → p.way = s.way ∧ (∃ e, p.hi = some e ∧ p.lo ≤ e) ∧ (∀ x, inS p x ↔ inS s x ∧ a ≤ x ∧ x ≤ b) ∧ ∀ x, valS p x = valS s x) ∧
    (cutS s a (some b) = none → ∀ x, inS s x → ¬ (a ≤ x ∧ x ≤ b)) := by
  have top : ∃ l, topOf s.hi (some b) = some l ∧ ∀ x, x ≤ l ↔ (∀ g, s.hi = some g → x ≤ g) ∧ x ≤ b := by
    cases hh : s.hi with
    | none => exact ⟨b, rfl, fun x => ⟨fun h => ⟨fun g e => (by cases e), h⟩, fun h => h.2⟩⟩
    | some g =>
      unfold topOf
      dsimp only
      split
      · exact ⟨b, rfl, fun x => ⟨fun h => ⟨fun g' e => (by cases e; omega), h⟩, fun h => h.2⟩⟩
      · exact ⟨g, rfl, fun x => ⟨fun h => ⟨fun g' e => (by cases e; exact h), by omega⟩, fun h => h.1 g rfl⟩⟩
  obtain ⟨l, hl, hx⟩ := top
  have mx : ∀ x, mxI s.lo a ≤ x ↔ s.lo ≤ x ∧ a ≤ x := fun x => by
    show (if a > s.lo then a else s.lo) ≤ x ↔ _
    split <;> omega
  unfold cutS
  rw [hl]
  dsimp only
  by_cases lt : l < mxI s.lo a
  · rw [if_pos lt]
    refine ⟨(fun p e => nomatch e), fun _ x i z => ?_⟩
    have h1 := (mx x).mpr ⟨i.1, z.1⟩
    have h2 := (hx x).mpr ⟨i.2, z.2⟩
    omega
  · rw [if_neg lt]
    refine ⟨fun p e => ?_, (fun e => nomatch e)⟩
    cases e
    refine ⟨rfl, ⟨l, rfl, by dsimp only; omega⟩, fun x => ⟨fun i => ?_, fun i => ?_⟩, fun x => ?_⟩
    · have h1 := (mx x).mp i.1
      have h2 := (hx x).mp (i.2 l rfl)
      exact ⟨⟨h1.1, h2.1⟩, h1.2, h2.2⟩
    · exact ⟨(mx x).mpr ⟨i.1.1, i.2.1⟩, fun g e => (by cases e; exact (hx x).mpr ⟨i.1.2, i.2.2⟩)⟩
    · unfold valS
      dsimp only
      rw [Int.mul_sub, Int.mul_sub, Int.mul_sub]
      omega
theorem sig_val {s : Sx} (w : Wy s) {low high x : Int} (h : low ≤ high) : mnI (sigOf s low) (sigOf s high) ≤ x ∧ x ≤ mxI (sigOf s low) (sigOf s high) ↔ low ≤ valS s x ∧ valS s x ≤ high := by
  show (if sigOf s high < sigOf s low then sigOf s high else sigOf s low) ≤ x ∧ x ≤ (if sigOf s high > sigOf s low then sigOf s high else sigOf s low) ↔ _
  unfold sigOf valS
  rcases w with w | w <;> rw [w] <;> split <;> split <;> omega
/-- the part of a stretch whose numbers lie between two -/
theorem cutN_all {s : Sx} {low high : Int} (w : Wy s) (o : ∀ g, s.hi = some g → s.lo ≤ g) (h : low ≤ high) :
    (∀ p, cutN s low high = some p → p.way = s.way ∧ (∃ e, p.hi = some e ∧ p.lo ≤ e) ∧ (∀ x, inS p x ↔ inS s x ∧ low ≤ valS s x ∧ valS s x ≤ high) ∧ ∀ x, valS p x = valS s x) ∧
    (cutN s low high = none → ∀ x, inS s x → ¬ (low ≤ valS s x ∧ valS s x ≤ high)) := by
  obtain ⟨k1, k2⟩ := cutS_all (a := mnI (sigOf s low) (sigOf s high)) (b := mxI (sigOf s low) (sigOf s high)) o
  refine ⟨fun p e => ?_, fun e x i z => k2 e x i ((sig_val w h).mpr z)⟩
  obtain ⟨q1, q2, q3, q4⟩ := k1 p e
  exact ⟨q1, q2, fun x => (q3 x).trans (and_congr_right fun _ => sig_val w h), q4⟩
/-- t is a part of s -/
structure Part (s t : Sx) : Prop where
  way : t.way = s.way
  ord : ∃ e, t.hi = some e ∧ t.lo ≤ e
  sub : ∀ x, inS t x → inS s x
theorem Part.lo {s t : Sx} (p : Part s t) : s.lo ≤ t.lo := by
  obtain ⟨e, h1, h2⟩ := p.ord
  exact (p.sub t.lo ⟨Int.le_refl _, fun g z => (by rw [h1] at z; cases z; exact h2)⟩).1
theorem Part.hi {s t : Sx} (p : Part s t) {e g : Int} (he : t.hi = some e) (hg : s.hi = some g) : e ≤ g := by
  obtain ⟨e', h1, h2⟩ := p.ord
  rw [he] at h1
  cases h1
  exact (p.sub e ⟨h2, fun g z => (by rw [he] at z; cases z; exact Int.le_refl _)⟩).2 g hg
theorem Part.long {s t : Sx} (p : Part s t) (h : Long t) : Long s := fun z => by
  obtain ⟨e, h1, h2⟩ := p.ord
  have l1 := p.lo
  have l2 := p.hi h1 z
  exact h (by rw [h1]; congr 1; omega)
theorem Nx.left {s s' t : Sx} (h : Nx s s') (p : Part s t) : Nx t s' := by
  obtain ⟨g, hg, hl⟩ := h.ah
  obtain ⟨e, h1, h2⟩ := p.ord
  have l2 := p.hi h1 hg
  refine ⟨⟨e, h1, by omega⟩, fun touch lt ls => ?_⟩
  rw [h1] at touch
  cases touch
  rw [p.way]
  exact h.alt (by rw [hg]; congr 1; omega) (p.long lt) ls
theorem Nx.right {s s' t : Sx} (h : Nx s s') (p : Part s' t) : Nx s t := by
  obtain ⟨g, hg, hl⟩ := h.ah
  have l1 := p.lo
  refine ⟨⟨g, hg, by omega⟩, fun touch ls lt => ?_⟩
  rw [hg] at touch
  cases touch
  rw [p.way]
  exact h.alt (by rw [hg]; congr 1; omega) ls (p.long lt)
theorem pass_mem {low high : Int} : ∀ (ss acc : List Sx), (∀ t ∈ acc, t ∈ ss.foldl (passStep low high) acc) ∧
    (∀ t ∈ ss.foldl (passStep low high) acc, t ∈ acc ∨ ∃ s ∈ ss, cutN s low high = some t) ∧
    (∀ s ∈ ss, ∀ p, cutN s low high = some p → p ∈ ss.foldl (passStep low high) acc ∨ (p.hi = some p.lo ∧ ∃ t ∈ ss.foldl (passStep low high) acc, t.hi = some p.lo))
  | [], acc => ⟨fun t h => h, fun t h => .inl h, fun s h => nomatch h⟩
  | s :: ss, acc => by
    obtain ⟨i1, i2, i3⟩ := pass_mem ss (passStep low high acc s)
    rw [List.foldl_cons]
    have sub : ∀ t ∈ acc, t ∈ passStep low high acc s := fun t h => by
      unfold passStep
      split
      · exact h
      · split
        · exact h
        · exact List.mem_append_left _ h
    refine ⟨fun t h => i1 t (sub t h), fun t h => ?_, fun x hx p hp => ?_⟩
    · rcases i2 t h with h | ⟨s', hs', e⟩
      · unfold passStep at h
        split at h
        · exact .inl h
        · rename_i q hq
          split at h
          · exact .inl h
          · rcases List.mem_append.mp h with h | h
            · exact .inl h
            · rw [List.mem_singleton.mp h]
              exact .inr ⟨s, List.mem_cons_self, hq⟩
      · exact .inr ⟨s', List.mem_cons_of_mem _ hs', e⟩
    · rcases List.mem_cons.mp hx with rfl | hx
      · by_cases ag : again acc p = true
        · right
          unfold again at ag
          rw [Bool.and_eq_true, decide_eq_true_eq] at ag
          refine ⟨ag.1, ?_⟩
          have ag2 := ag.2
          cases hl : acc.getLast? with
          | none => rw [hl] at ag2; cases ag2
          | some t =>
            rw [hl] at ag2
            exact ⟨t, i1 t (sub t (List.mem_of_getLast? hl)), of_decide_eq_true ag2⟩
        · left
          refine i1 p ?_
          unfold passStep
          rw [hp]
          dsimp only
          rw [if_neg ag]
          exact List.mem_append_right _ (List.mem_singleton.mpr rfl)
      · exact i3 x hx p hp
theorem pass_nx {low high : Int} (le : low ≤ high) : ∀ (ss acc : List Sx), (∀ s ∈ ss, Wy s ∧ ∀ g, s.hi = some g → s.lo ≤ g) → ss.Pairwise Nx → acc.Pairwise Nx → (∀ a ∈ acc, ∀ s ∈ ss, Nx a s) → (ss.foldl (passStep low high) acc).Pairwise Nx
  | [], acc, _, _, h, _ => h
  | s :: ss, acc, ok, h1, h2, h3 => by
    obtain ⟨q1, q2⟩ := List.pairwise_cons.mp h1
    have ok' := fun x hx => ok x (List.mem_cons_of_mem s hx)
    rw [List.foldl_cons]
    unfold passStep
    cases hc : cutN s low high with
    | none => exact pass_nx le ss acc ok' q2 h2 fun a ha x hx => h3 a ha x (List.mem_cons_of_mem _ hx)
    | some p =>
      dsimp only
      split
      · exact pass_nx le ss acc ok' q2 h2 fun a ha x hx => h3 a ha x (List.mem_cons_of_mem _ hx)
      · obtain ⟨k1, k2, k3, _⟩ := (cutN_all (ok s List.mem_cons_self).1 (ok s List.mem_cons_self).2 le).1 p hc
        have pt : Part s p := ⟨k1, k2, fun x hx => ((k3 x).mp hx).1⟩
        refine pass_nx le ss _ ok' q2 (List.pairwise_append.mpr ⟨h2, List.pairwise_singleton _ _, fun a ha b hb => ?_⟩) fun a ha x hx => ?_
        · rw [List.mem_singleton.mp hb]
          exact (h3 a ha s List.mem_cons_self).right pt
        · rcases List.mem_append.mp ha with ha | ha
          · exact h3 a ha x (List.mem_cons_of_mem _ hx)
          · rw [List.mem_singleton.mp ha]
            exact (q1 x hx).left pt
theorem cov_pass {f : Int → Option Int} {low high : Int} {L : List Sx} (le : low ≤ high) (C : Cov f L) : Cov (fun x => (f x).bind fun n => if low ≤ n ∧ n ≤ high then some n else none) (behindPass low high L) := by
  obtain ⟨_, m2, m3⟩ := pass_mem (low := low) (high := high) L []
  have P := fun s hs => cutN_all (low := low) (high := high) (C.w s hs) (C.ord s hs) le
  have from_ : ∀ t ∈ behindPass low high L, ∃ s ∈ L, cutN s low high = some t := fun t ht => by
    rcases m2 t ht with h | h
    · cases h
    · exact h
  have hv : ∀ {x n : Int}, ((f x).bind fun n => if low ≤ n ∧ n ≤ high then some n else none) = some n → f x = some n ∧ low ≤ n ∧ n ≤ high := fun {x n} h => by
    obtain ⟨n', h1, h2⟩ := Option.bind_eq_some_iff.mp h
    split at h2
    · cases h2
      exact ⟨h1, by assumption⟩
    · cases h2
  refine ⟨fun t ht => ?_, fun t ht => ?_, fun t ht g hg => ?_, fun t ht z => ?_, fun t ht x hx => ?_, fun x x0 n hn => ?_, fun x x0 n m hn hm => ?_, ?_⟩
  · obtain ⟨s, hs, e⟩ := from_ t ht
    have := ((P s hs).1 t e).1
    unfold Wy
    rw [this]
    exact C.w s hs
  · obtain ⟨s, hs, e⟩ := from_ t ht
    obtain ⟨k1, k2, k3, _⟩ := (P s hs).1 t e
    have := (Part.mk k1 k2 fun x hx => ((k3 x).mp hx).1).lo
    have := C.lo s hs
    omega
  · obtain ⟨s, hs, e⟩ := from_ t ht
    obtain ⟨e', h1, h2⟩ := ((P s hs).1 t e).2.1
    rw [hg] at h1
    cases h1
    exact h2
  · obtain ⟨s, hs, e⟩ := from_ t ht
    obtain ⟨e', h1, h2⟩ := ((P s hs).1 t e).2.1
    rw [z] at h1
    cases h1
  · obtain ⟨s, hs, e⟩ := from_ t ht
    obtain ⟨k1, k2, k3, k4⟩ := (P s hs).1 t e
    obtain ⟨i, r⟩ := (k3 x).mp hx
    rw [C.val s hs x i, k4]
    show (if low ≤ valS s x ∧ valS s x ≤ high then some (valS s x) else none) = _
    rw [if_pos r]
  · obtain ⟨h1, h2⟩ := hv hn
    obtain ⟨s, hs, hi⟩ := C.all x x0 n h1
    have vx : valS s x = n := Option.some.inj ((C.val s hs x hi).symm.trans h1)
    cases hc : cutN s low high with
    | none => exact absurd (by rw [vx]; exact h2) ((P s hs).2 hc x hi)
    | some p =>
      obtain ⟨k1, k2, k3, k4⟩ := (P s hs).1 p hc
      have ip : inS p x := (k3 x).mpr ⟨hi, by rw [vx]; exact h2⟩
      rcases m3 s hs p hc with h | ⟨h, t, ht, e⟩
      · exact ⟨p, h, ip⟩
      · refine ⟨t, ht, ?_, fun g hg => ?_⟩
        · obtain ⟨s', hs', e'⟩ := from_ t ht
          obtain ⟨g, q1, q2⟩ := ((P s' hs').1 t e').2.1
          rw [e] at q1
          cases q1
          have := ip.1
          omega
        · rw [e] at hg
          cases hg
          have := ip.2 _ h
          omega
  · obtain ⟨h1, h2⟩ := hv hn
    obtain ⟨h3, h4⟩ := hv hm
    obtain ⟨s, hs, hi, hj⟩ := C.two x x0 n m h1 h3
    have vx : valS s x = n := Option.some.inj ((C.val s hs x hi).symm.trans h1)
    have vy : valS s (x + 1) = m := Option.some.inj ((C.val s hs _ hj).symm.trans h3)
    cases hc : cutN s low high with
    | none => exact absurd (by rw [vx]; exact h2) ((P s hs).2 hc x hi)
    | some p =>
      obtain ⟨k1, k2, k3, k4⟩ := (P s hs).1 p hc
      have ip : inS p x := (k3 x).mpr ⟨hi, by rw [vx]; exact h2⟩
      have jp : inS p (x + 1) := (k3 _).mpr ⟨hj, by rw [vy]; exact h4⟩
      rcases m3 s hs p hc with h | ⟨h, t, ht, e⟩
      · exact ⟨p, h, ip, jp⟩
      · have := ip.1
        have := jp.2 _ h
        omega
  · exact pass_nx le L [] (fun s hs => ⟨C.w s hs, C.ord s hs⟩) C.nx List.Pairwise.nil fun a h => nomatch h
/-! ### all stages -/
theorem cov_start : Cov (fun x => some x) [⟨0, none, 0, 1⟩] := by
  refine ⟨fun t ht => ?_, fun t ht => ?_, fun t ht => ?_, fun t ht => ?_, fun t ht x hx => ?_, fun x x0 n hn => ?_, fun x x0 n m hn hm => ?_, List.pairwise_singleton _ _⟩
  · rw [List.mem_singleton.mp ht]; exact .inl rfl
  · rw [List.mem_singleton.mp ht]; exact Int.le_refl _
  · rw [List.mem_singleton.mp ht]; exact fun g e => nomatch e
  · rw [List.mem_singleton.mp ht]; exact fun _ => rfl
  · rw [List.mem_singleton.mp ht]
    unfold valS
    dsimp only
    congr 1
    omega
  · exact ⟨_, List.mem_singleton.mpr rfl, x0, fun g e => nomatch e⟩
  · exact ⟨_, List.mem_singleton.mpr rfl, ⟨x0, fun g e => nomatch e⟩, by dsimp only; omega, fun g e => nomatch e⟩
theorem cov_step {dial : Int} {f : Int → Option Int} {L : List Sx} {s : Stg} (hs : ∀ a b, s = .pass a b → a ≤ b) (C : Cov f L) : Cov (fun x => s.step dial (f x)) (strStep dial L s) := by
  cases s with
  | mix lo =>
    have e : (fun x => (Stg.mix lo).step dial (f x)) = fun x => (f x).map fun n => absI (n - lo) := funext fun x => by
      cases f x <;> rfl
    rw [e]
    exact cov_mixer C
  | dial a =>
    have e : (fun x => (Stg.dial a).step dial (f x)) = fun x => (f x).map fun n => absI (n - (dial + a)) := funext fun x => by
      cases f x <;> rfl
    rw [e]
    exact cov_mixer C
  | pass a b =>
    have e : (fun x => (Stg.pass a b).step dial (f x)) = fun x => (f x).bind fun n => if a ≤ n ∧ n ≤ b then some n else none := funext fun x => by
      cases f x <;> rfl
    rw [e]
    exact cov_pass (hs a b rfl) C
theorem cov_all {dial : Int} : ∀ (ss : List Stg) (f : Int → Option Int) (L : List Sx), (∀ s ∈ ss, ∀ a b, s = .pass a b → a ≤ b) → Cov f L → Cov (fun x => lastT dial ss (f x)) (ss.foldl (strStep dial) L)
  | [], f, L, _, C => C
  | s :: ss, f, L, h, C => by
    rw [List.foldl_cons]
    exact cov_all ss (fun x => s.step dial (f x)) (strStep dial L s) (fun x hx => h x (List.mem_cons_of_mem _ hx)) (cov_step (h s List.mem_cons_self) C)
theorem cov_str {dial : Int} {ss : List Stg} (h : ∀ s ∈ ss, ∀ a b, s = .pass a b → a ≤ b) : Cov (fun x => lastT dial ss (some x)) (strAt dial ss) := cov_all ss (fun x => some x) _ h cov_start
end Kx

set_option Elab.async false
set_option linter.all false
set_option maxRecDepth 100000
set_option maxHeartbeats 4000000
namespace Kx
open PySem PySem.Spec PyProof.Rows L2 HX
/-! ### slopes of tones, whatever makes them -/
/-- by how much the tone goes up from a signal to the next one; 0 where one of both is silent, or ahead of 0 -/
def stepF (f : Int → Option Int) (x : Int) : Int := if x < 0 then 0 else match f x, f (x + 1) with
  | some a, some b => b - a
  | _, _ => 0
theorem step_some {f : Int → Option Int} {x a b : Int} (h : 0 ≤ x) (ha : f x = some a) (hb : f (x + 1) = some b) : stepF f x = b - a := by
  unfold stepF
  rw [if_neg (by omega), ha, hb]
theorem step_cases (f : Int → Option Int) (x : Int) : stepF f x = 0 ∨ ∃ a b, 0 ≤ x ∧ f x = some a ∧ f (x + 1) = some b ∧ stepF f x = b - a := by
  unfold stepF
  split
  · exact .inl rfl
  · cases ha : f x with
    | none => exact .inl rfl
    | some a =>
      cases hb : f (x + 1) with
      | none => exact .inl rfl
      | some b => exact .inr ⟨a, b, by omega, rfl, rfl, rfl⟩
/-- a slope of the tones f -/
structure IsSl (f : Int → Option Int) (t : Sx) : Prop where
  w : Wy t
  lo : 0 ≤ t.lo
  lt : ∀ g, t.hi = some g → t.lo < g
  val : ∀ x, inS t x → f x = some (valS t x)
  left : stepF f (t.lo - 1) ≠ t.way
  right : ∀ g, t.hi = some g → stepF f g ≠ t.way
namespace IsSl
variable {f : Int → Option Int} {t u : Sx}
theorem first (h : IsSl f t) : inS t t.lo ∧ inS t (t.lo + 1) := ⟨⟨Int.le_refl _, fun g e => Int.le_of_lt (h.lt g e)⟩, by omega, fun g e => h.lt g e⟩
theorem step (h : IsSl f t) {x : Int} (h1 : inS t x) (h2 : inS t (x + 1)) : stepF f x = t.way := by
  rw [step_some (Int.le_trans h.lo h1.1) (h.val x h1) (h.val _ h2)]
  unfold valS
  rw [show x + 1 - t.lo = (x - t.lo) + 1 by omega, Int.mul_add]
  omega
theorem num (h : IsSl f t) : f t.lo = some t.num := by
  rw [h.val _ h.first.1]
  unfold valS
  rw [Int.sub_self, Int.mul_zero, Int.add_zero]
/-- two slopes share no more than an end -/
theorem sep (h : IsSl f t) (k : IsSl f u) (lt : t.lo < u.lo) : ∃ g, t.hi = some g ∧ g ≤ u.lo := by
  have key : ¬ inS t (u.lo + 1) := fun i => by
    have i0 : inS t u.lo := ⟨by omega, fun g e => by have := i.2 g e; omega⟩
    have i1 : inS t (u.lo - 1) := ⟨by omega, fun g e => by have := i.2 g e; omega⟩
    have s1 := h.step i0 i
    have s2 := h.step i1 (by rw [Int.sub_add_cancel]; exact i0)
    have s3 := k.step k.first.1 k.first.2
    exact k.left (by rw [s2, ← s3, s1])
  cases hh : t.hi with
  | none => exact absurd ⟨by omega, fun g e => by rw [hh] at e; cases e⟩ key
  | some g =>
    refine ⟨g, rfl, ?_⟩
    by_cases z : g ≤ u.lo
    · exact z
    · exact absurd ⟨by omega, fun g' e => by rw [hh] at e; cases e; omega⟩ key
/-- two slopes with one beginning are one -/
theorem uniq (h : IsSl f t) (k : IsSl f u) (e : t.lo = u.lo) : t = u := by
  have n1 := h.num
  rw [e, k.num] at n1
  have w1 := h.step h.first.1 h.first.2
  rw [e, k.step k.first.1 k.first.2] at w1
  have hi : t.hi = u.hi := by
    cases ht : t.hi with
    | none =>
      cases hu : u.hi with
      | none => rfl
      | some g =>
        exfalso
        have lt := k.lt g hu
        exact k.right g hu (by rw [w1]; exact h.step ⟨by omega, fun g' z => by rw [ht] at z; cases z⟩ ⟨by omega, fun g' z => by rw [ht] at z; cases z⟩)
    | some g =>
      have lt := h.lt g ht
      cases hu : u.hi with
      | none => exact absurd (by rw [← w1]; exact k.step ⟨by omega, fun g' z => by rw [hu] at z; cases z⟩ ⟨by omega, fun g' z => by rw [hu] at z; cases z⟩) (h.right g ht)
      | some g' =>
        have lt' := k.lt g' hu
        rcases Int.lt_trichotomy g g' with z | z | z
        · exact absurd (by rw [← w1]; exact k.step ⟨by omega, fun q z => by rw [hu] at z; cases z; omega⟩ ⟨by omega, fun q z => by rw [hu] at z; cases z; omega⟩) (h.right g ht)
        · rw [z]
        · exact absurd (by rw [w1]; exact h.step ⟨by omega, fun q z => by rw [ht] at z; cases z; omega⟩ ⟨by omega, fun q z => by rw [ht] at z; cases z; omega⟩) (k.right g' hu)
  obtain ⟨a1, a2, a3, a4⟩ := t
  obtain ⟨b1, b2, b3, b4⟩ := u
  dsimp only at e hi n1 w1
  cases n1
  subst e hi w1
  rfl
/-- two slopes that share two neighbours are one -/
theorem uniq2 (h : IsSl f t) (k : IsSl f u) {x : Int} (h1 : inS t x) (h2 : inS t (x + 1)) (k1 : inS u x) (k2 : inS u (x + 1)) : t = u := by
  refine h.uniq k ?_
  rcases Int.lt_trichotomy t.lo u.lo with z | z | z
  · obtain ⟨g, e, l⟩ := h.sep k z
    have := h2.2 g e
    have := k1.1
    omega
  · exact z
  · obtain ⟨g, e, l⟩ := k.sep h z
    have := k2.2 g e
    have := h1.1
    omega
end IsSl
theorem pw_mem {α : Type} {R : α → α → Prop} {L : List α} (h : L.Pairwise R) {a b : α} (ha : a ∈ L) (hb : b ∈ L) : a = b ∨ R a b ∨ R b a := by
  induction L with
  | nil => cases ha
  | cons x L ih =>
    obtain ⟨h1, h2⟩ := List.pairwise_cons.mp h
    rcases List.mem_cons.mp ha with za | ha'
    · rcases List.mem_cons.mp hb with zb | hb'
      · exact .inl (za.trans zb.symm)
      · exact .inr (.inl (za ▸ h1 b hb'))
    · rcases List.mem_cons.mp hb with zb | hb'
      · exact .inr (.inr (zb ▸ h1 a ha'))
      · exact ih h2 ha' hb'
namespace Cov
variable {f : Int → Option Int} {L : List Sx}
theorem step (C : Cov f L) {s : Sx} (hs : s ∈ L) {x : Int} (h1 : inS s x) (h2 : inS s (x + 1)) : stepF f x = s.way := by
  rw [step_some (Int.le_trans (C.lo s hs) h1.1) (C.val s hs x h1) (C.val s hs _ h2)]
  unfold valS
  rw [show x + 1 - s.lo = (x - s.lo) + 1 by omega, Int.mul_add]
  omega
theorem long2 {s : Sx} {x : Int} (h1 : inS s x) (h2 : inS s (x + 1)) : Long s := fun z => by
  have := h2.2 _ z
  have := h1.1
  omega
/-- long stretches that touch turn; so each is as long as possible -/
theorem isl (C : Cov f L) {t : Sx} (ht : t ∈ L) (lt : Long t) : IsSl f t := by
  have lt' : ∀ g, t.hi = some g → t.lo < g := fun g e => long_of lt e (C.ord t ht g e)
  have w := C.w t ht
  have lo := C.lo t ht
  have wne : t.way ≠ 0 := by rcases w with z | z <;> rw [z] <;> decide
  have first : inS t t.lo := ⟨Int.le_refl _, fun g e => Int.le_of_lt (lt' g e)⟩
  refine ⟨w, lo, lt', C.val t ht, fun z => ?_, fun g hg z => ?_⟩
  · rcases step_cases f (t.lo - 1) with h | ⟨a, b, x0, ha, hb, _⟩
    · exact wne (z ▸ h)
    · obtain ⟨s, hs, i, j⟩ := C.two _ x0 a b ha hb
      have sw := C.step hs i j
      rw [Int.sub_add_cancel] at j
      rcases pw_mem C.nx hs ht with rfl | h | h
      · have := i.1
        omega
      · obtain ⟨g, e, l⟩ := h.ah
        have l2 := j.2 g e
        exact h.alt (by rw [e]; congr 1; omega) (long2 i (by rw [Int.sub_add_cancel]; exact j)) lt (sw.symm.trans z)
      · obtain ⟨g, e, l⟩ := h.ah
        have := lt' g e
        have := i.1
        omega
  · rcases step_cases f g with h | ⟨a, b, x0, ha, hb, _⟩
    · exact wne (z ▸ h)
    · obtain ⟨s, hs, i, j⟩ := C.two _ x0 a b ha hb
      have sw := C.step hs i j
      have l0 := lt' g hg
      rcases pw_mem C.nx hs ht with rfl | h | h
      · have := j.2 g hg
        omega
      · obtain ⟨g', e, l⟩ := h.ah
        have := j.2 g' e
        omega
      · obtain ⟨g', e, l⟩ := h.ah
        rw [hg] at e
        cases e
        have := i.1
        exact h.alt (by rw [hg]; congr 1; omega) lt (long2 i j) (z.symm.trans sw)
theorem has (C : Cov f L) {x : Int} (h : stepF f x ≠ 0) : ∃ s ∈ L, Long s ∧ inS s x ∧ inS s (x + 1) := by
  rcases step_cases f x with z | ⟨a, b, x0, ha, hb, _⟩
  · exact absurd z h
  · obtain ⟨s, hs, i, j⟩ := C.two _ x0 a b ha hb
    exact ⟨s, hs, long2 i j, i, j⟩
end Cov
/-- what holds of a receiver's stages, as stage numbers go -/
def PassOk (ss : List Stg) : Prop := ∀ s ∈ ss, ∀ a b, s = .pass a b → a ≤ b
theorem mem_slopes {dial : Int} {ss : List Stg} {t : Sx} : t ∈ slopesOf dial ss ↔ t ∈ strAt dial ss ∧ Long t := by
  unfold slopesOf Long
  rw [List.mem_filter]
  simp
def mixF (dial : Int) (ss : List Stg) (x : Int) : Option Int := lastT dial ss (some x)
theorem mixed_isl {dial : Int} {ss : List Stg} (h : PassOk ss) {t : Sx} (ht : t ∈ slopesOf dial ss) : IsSl (mixF dial ss) t := by
  obtain ⟨h1, h2⟩ := mem_slopes.mp ht
  exact (cov_str h).isl h1 h2
theorem mixed_has {dial : Int} {ss : List Stg} (h : PassOk ss) {x : Int} (hx : stepF (mixF dial ss) x ≠ 0) : ∃ s ∈ slopesOf dial ss, inS s x ∧ inS s (x + 1) := by
  obtain ⟨s, h1, h2, h3, h4⟩ := (cov_str h).has hx
  exact ⟨s, mem_slopes.mpr ⟨h1, h2⟩, h3, h4⟩
end Kx

set_option Elab.async false
set_option linter.all false
set_option maxRecDepth 100000
set_option maxHeartbeats 4000000
namespace Kx
open PySem PySem.Spec PyProof.Rows L2 HX
/-! ### the sampler: its slopes -/
theorem samp_in {r F n : Int} (hr : 2 ≤ r) (h1 : lowF r F ≤ n) (h2 : n ≤ highF r F) : sampI r n = if F % 2 = 0 then n - lowF r F else highF r F - n := by
  unfold lowF at h1 ⊢
  unfold highF at h2 ⊢
  unfold sampI
  by_cases e : F % 2 = 0
  · rw [if_pos e] at h1 h2 ⊢
    rw [if_pos e]
    have m : n % r = n - F / 2 * r := by
      rw [show n = (n - F / 2 * r) + F / 2 * r by omega, Int.add_mul_emod_self_right, Int.emod_eq_of_lt (by omega) (by omega)]
      omega
    rw [m]
    split <;> omega
  · rw [if_neg e] at h1 h2 ⊢
    rw [if_neg e]
    by_cases z : n = F / 2 * r + r
    · have m : n % r = 0 := by
        rw [z, show F / 2 * r + r = (F / 2 + 1) * r by rw [Int.add_mul, Int.one_mul], Int.mul_emod_left]
      rw [m]
      split <;> omega
    · have m : n % r = n - F / 2 * r := by
        rw [show n = (n - F / 2 * r) + F / 2 * r by omega, Int.add_mul_emod_self_right, Int.emod_eq_of_lt (by omega) (by omega)]
        omega
      rw [m]
      split <;> omega
theorem fold_pm {r F : Int} : (F % 2 = 0 → lowF r F = F / 2 * r ∧ highF r F = F / 2 * r + r / 2 ∧ lowF r (F - 1) = F / 2 * r - r / 2 ∧ highF r (F - 1) = F / 2 * r ∧ lowF r (F + 1) = F / 2 * r + r - r / 2 ∧ highF r (F + 1) = F / 2 * r + r) ∧
    (¬ F % 2 = 0 → lowF r F = F / 2 * r + r - r / 2 ∧ highF r F = F / 2 * r + r ∧ lowF r (F - 1) = F / 2 * r ∧ highF r (F - 1) = F / 2 * r + r / 2 ∧ lowF r (F + 1) = F / 2 * r + r ∧ highF r (F + 1) = F / 2 * r + r + r / 2) := by
  refine ⟨fun e => ?_, fun e => ?_⟩
  · unfold lowF highF
    rw [if_pos e, if_pos e, if_neg (show ¬ (F - 1) % 2 = 0 by omega), if_neg (show ¬ (F - 1) % 2 = 0 by omega), if_neg (show ¬ (F + 1) % 2 = 0 by omega), if_neg (show ¬ (F + 1) % 2 = 0 by omega), show (F - 1) / 2 = F / 2 - 1 by omega, show (F + 1) / 2 = F / 2 by omega, Int.sub_mul, Int.one_mul]
    omega
  · unfold lowF highF
    rw [if_neg e, if_neg e, if_pos (show (F - 1) % 2 = 0 by omega), if_pos (show (F - 1) % 2 = 0 by omega), if_pos (show (F + 1) % 2 = 0 by omega), if_pos (show (F + 1) % 2 = 0 by omega), show (F - 1) / 2 = F / 2 by omega, show (F + 1) / 2 = F / 2 + 1 by omega, Int.add_mul, Int.one_mul]
    omega
/-- beside a fold it does not go on -/
theorem samp_off {r F : Int} (hr : 2 ≤ r) : sampI r (lowF r F) - sampI r (lowF r F - 1) ≠ wayF F ∧ sampI r (highF r F + 1) - sampI r (highF r F) ≠ wayF F := by
  obtain ⟨k1, k2⟩ := fold_pm (r := r) (F := F)
  unfold wayF
  by_cases e : F % 2 = 0
  · obtain ⟨a1, a2, a3, a4, a5, a6⟩ := k1 e
    rw [if_pos e]
    have s1 := samp_in (F := F) (n := lowF r F) hr (by omega) (by omega)
    have s2 := samp_in (F := F - 1) (n := lowF r F - 1) hr (by omega) (by omega)
    have s3 := samp_in (F := F) (n := highF r F) hr (by omega) (by omega)
    have s4 := samp_in (F := F + 1) (n := highF r F + 1) hr (by omega) (by omega)
    rw [if_pos e] at s1 s3
    rw [if_neg (show ¬ (F - 1) % 2 = 0 by omega)] at s2
    rw [if_neg (show ¬ (F + 1) % 2 = 0 by omega)] at s4
    rw [s1, s2, s3, s4]
    constructor <;> omega
  · obtain ⟨a1, a2, a3, a4, a5, a6⟩ := k2 e
    rw [if_neg e]
    have s1 := samp_in (F := F) (n := lowF r F) hr (by omega) (by omega)
    have s2 := samp_in (F := F - 1) (n := lowF r F - 1) hr (by omega) (by omega)
    have s3 := samp_in (F := F) (n := highF r F) hr (by omega) (by omega)
    have s4 := samp_in (F := F + 1) (n := highF r F + 1) hr (by omega) (by omega)
    rw [if_neg e] at s1 s3
    rw [if_pos (show (F - 1) % 2 = 0 by omega)] at s2
    rw [if_pos (show (F + 1) % 2 = 0 by omega)] at s4
    rw [s1, s2, s3, s4]
    constructor <;> omega
theorem sampled_some {r n : Int} : sampled r (some n) = some (sampI r n) := rfl
theorem mixed_two {dial : Int} {ss : List Stg} (h : PassOk ss) {x n m : Int} (x0 : 0 ≤ x) (hn : mixF dial ss x = some n) (hm : mixF dial ss (x + 1) = some m) : ∃ s ∈ slopesOf dial ss, inS s x ∧ inS s (x + 1) := by
  obtain ⟨s, h1, h2, h3⟩ := (cov_str h).two x x0 n m hn hm
  exact ⟨s, mem_slopes.mpr ⟨h1, Cov.long2 h2 h3⟩, h2, h3⟩
/-- a fold of a slope has two numbers of it or more -/
theorem fold_two {s : Sx} {r k : Int} (m : MadeOk s (some r) k) : ∃ x, inS s x ∧ inS s (x + 1) ∧ (lowF r (foldOf s r k) ≤ valS s x ∧ valS s x ≤ highF r (foldOf s r k)) ∧ lowF r (foldOf s r k) ≤ valS s (x + 1) ∧ valS s (x + 1) ≤ highF r (foldOf s r k) := by
  have hr := (m.r2 r rfl).1
  have lt := low_lt (f := foldOf s r k) hr
  have k0 := m.k0
  cases hh : s.hi with
  | none =>
    have w := m.up hh
    have e1 : (foldsA s r).1 = ffold r (s.num + 1) := by unfold foldsA; rw [hh]
    have ef : foldOf s r k = ffold r (s.num + 1) + k := by unfold foldOf; rw [if_pos w, e1]
    have hi := (ffold_iff (r := r) (x := s.num + 1) (f := foldOf s r k) hr).mp (by omega)
    generalize foldOf s r k = F at *
    refine ⟨s.lo + (if lowF r F > s.num then lowF r F - s.num else 0), ⟨by split <;> omega, fun g e => (by rw [hh] at e; cases e)⟩, ⟨by split <;> omega, fun g e => (by rw [hh] at e; cases e)⟩, ?_, ?_⟩ <;>
      (unfold valS; rw [w]; split <;> omega)
  | some g =>
    have lg := m.lt g hh
    obtain ⟨l, hl⟩ : ∃ l, (foldsA s r).2 = some l := by unfold foldsA; rw [hh]; exact ⟨_, rfl⟩
    have hc := m.of _ (show countM s (some r) = some (l - (foldsA s r).1 + 1) from by unfold countM; dsimp only; rw [hl])
    have e1 : (foldsA s r).1 = ffold r (mnI s.num (endOf s g) + 1) := by unfold foldsA; rw [hh]
    have e2 : l = lfold r (mxI s.num (endOf s g) - 1) := by
      have : (foldsA s r).2 = some (lfold r (mxI s.num (endOf s g) - 1)) := by unfold foldsA; rw [hh]
      rw [hl] at this
      exact Option.some.inj this
    have fr : (foldsA s r).1 ≤ foldOf s r k ∧ foldOf s r k ≤ l := by
      unfold foldOf
      rw [hl, Option.getD_some]
      split <;> omega
    have h1 := (ffold_iff (r := r) (x := mnI s.num (endOf s g) + 1) (f := foldOf s r k) hr).mp (by omega)
    have h2 := (lfold_iff (r := r) (y := mxI s.num (endOf s g) - 1) (f := foldOf s r k) hr).mp (by omega)
    generalize foldOf s r k = F at *
    rcases m.w with w | w
    · have en : endOf s g = s.num + (g - s.lo) := by unfold endOf; rw [w]; omega
      rw [show mnI s.num (endOf s g) = s.num from if_neg (by omega)] at h1
      rw [show mxI s.num (endOf s g) = endOf s g from if_pos (by omega)] at h2
      refine ⟨s.lo + (if lowF r F > s.num then lowF r F - s.num else 0), ⟨by split <;> omega, fun g' e => (by rw [hh] at e; cases e; split <;> omega)⟩, ⟨by split <;> omega, fun g' e => (by rw [hh] at e; cases e; split <;> omega)⟩, ?_, ?_⟩ <;>
        (unfold valS; rw [w]; split <;> omega)
    · have en : endOf s g = s.num - (g - s.lo) := by unfold endOf; rw [w]; omega
      rw [show mnI s.num (endOf s g) = endOf s g from if_pos (by omega)] at h1
      rw [show mxI s.num (endOf s g) = s.num from if_neg (by omega)] at h2
      refine ⟨s.lo + (if highF r F < s.num then s.num - highF r F else 0), ⟨by split <;> omega, fun g' e => (by rw [hh] at e; cases e; split <;> omega)⟩, ⟨by split <;> omega, fun g' e => (by rw [hh] at e; cases e; split <;> omega)⟩, ?_, ?_⟩ <;>
        (unfold valS; rw [w]; split <;> omega)
theorem wayF_ne (F : Int) : wayF F = 1 ∧ F % 2 = 0 ∨ wayF F = -1 ∧ ¬ F % 2 = 0 := by
  unfold wayF
  by_cases e : F % 2 = 0
  · rw [if_pos e]; exact .inl ⟨rfl, e⟩
  · rw [if_neg e]; exact .inr ⟨rfl, e⟩
/-- what the sampler makes of a fold of a slope is a slope -/
theorem made_isl {dial : Int} {ss : List Stg} (P : PassOk ss) {s : Sx} {r k : Int} (hs : s ∈ slopesOf dial ss) (m : MadeOk s (some r) k) : IsSl (fun x => sampled r (mixF dial ss x)) (madeS s (some r) k) := by
  have S := mixed_isl P hs
  have hr := (m.r2 r rfl).1
  obtain ⟨p, hp⟩ := made_cut m
  have le := low_high (f := foldOf s r k) hr
  obtain ⟨x2, b1, b2, b3, b4⟩ := fold_two m
  obtain ⟨off1, off2⟩ := samp_off (F := foldOf s r k) hr
  have et : madeS s (some r) k = ⟨p.lo, p.hi, sampI r p.num, p.way * wayF (foldOf s r k)⟩ := by unfold madeS; dsimp only; rw [hp]
  rw [et]
  have ord : ∀ g, s.hi = some g → s.lo ≤ g := fun g e => Int.le_of_lt (S.lt g e)
  generalize hF : foldOf s r k = F at *
  obtain ⟨q1, ⟨e, q2, q3⟩, q4, q5⟩ := (cutN_all S.w ord le).1 p hp
  have c1 := (q4 x2).mpr ⟨b1, b3⟩
  have c2 := (q4 _).mpr ⟨b2, b4⟩
  have ple : p.lo < e := by
    have := c1.1
    have := c2.2 e q2
    omega
  have pin : inS p p.lo := ⟨Int.le_refl _, fun g z => (by rw [q2] at z; cases z; exact q3)⟩
  have pin1 : inS p (p.lo + 1) := ⟨by omega, fun g z => (by rw [q2] at z; cases z; exact ple)⟩
  have pie : inS p e := ⟨q3, fun g z => (by rw [q2] at z; cases z; exact Int.le_refl _)⟩
  have pie1 : inS p (e - 1) := ⟨by omega, fun g z => (by rw [q2] at z; cases z; omega)⟩
  have pnum : p.num = valS s p.lo := by
    rw [← q5]
    unfold valS
    rw [Int.sub_self, Int.mul_zero, Int.add_zero]
  have fv : ∀ x, inS p x → mixF dial ss x = some (valS s x) ∧ lowF r F ≤ valS s x ∧ valS s x ≤ highF r F := fun x i => ⟨S.val x ((q4 x).mp i).1, ((q4 x).mp i).2⟩
  have w1 := S.w
  have ww := wayF_ne F
  have wne : p.way * wayF F ≠ 0 := by rw [q1]; rcases w1 with a | a <;> rcases ww with ⟨b, _⟩ | ⟨b, _⟩ <;> rw [a, b] <;> decide
  have stepv : ∀ x, valS s (x + 1) = valS s x + s.way := fun x => by
    unfold valS
    rw [show x + 1 - s.lo = (x - s.lo) + 1 by omega, Int.mul_add]
    omega
  -- the tones within
  have sv : ∀ x, inS p x → sampled r (mixF dial ss x) = some (sampI r p.num + p.way * wayF F * (x - p.lo)) := fun x i => by
    obtain ⟨h1, h2, h3⟩ := fv x i
    obtain ⟨_, h4, h5⟩ := fv p.lo pin
    rw [h1, sampled_some, samp_in hr h2 h3, pnum, samp_in hr h4 h5, q1]
    congr 1
    have vx : valS s x = valS s p.lo + s.way * (x - p.lo) := by
      unfold valS
      rw [show x - s.lo = (x - p.lo) + (p.lo - s.lo) by omega, Int.mul_add]
      omega
    rw [vx]
    rcases ww with ⟨b, c⟩ | ⟨b, c⟩
    · rw [b, if_pos c, if_pos c, Int.mul_one]
      omega
    · rw [b, if_neg c, if_neg c, Int.mul_neg, Int.mul_one, Int.neg_mul]
      omega
  refine ⟨?_, Int.le_trans S.lo ((q4 _).mp pin).1.1, fun g z => ?_, fun x i => sv x ⟨i.1, i.2⟩, fun z => ?_, fun g hg z => ?_⟩
  · unfold Wy
    dsimp only
    rw [q1]
    rcases w1 with a | a <;> rcases ww with ⟨b, _⟩ | ⟨b, _⟩ <;> rw [a, b] <;> decide
  · dsimp only at z ⊢
    rw [q2] at z
    cases z
    exact ple
  · dsimp only at z
    rcases step_cases (fun x => sampled r (mixF dial ss x)) (p.lo - 1) with h | ⟨a, b, x0, ha, hb, hst⟩
    · exact wne (z ▸ h)
    · rw [Int.sub_add_cancel] at hb
      cases hn : mixF dial ss (p.lo - 1) with
      | none => rw [hn] at ha; cases ha
      | some n' =>
        have hn0 := (fv p.lo pin).1
        obtain ⟨s', hs', i, j⟩ := mixed_two P x0 hn (by rw [Int.sub_add_cancel]; exact hn0)
        have S' := mixed_isl P hs'
        have j' := j
        rw [Int.sub_add_cancel] at j
        rw [hn, sampled_some] at ha
        rw [hn0, sampled_some] at hb
        have ea := Option.some.inj ha
        have eb := Option.some.inj hb
        by_cases ins : inS s (p.lo - 1)
        · have hv := Option.some.inj ((S.val _ ins).symm.trans hn)
          have st := stepv (p.lo - 1)
          rw [Int.sub_add_cancel, hv] at st
          have out : ¬ (lowF r F ≤ n' ∧ n' ≤ highF r F) := fun c => by
            have := ((q4 (p.lo - 1)).mpr ⟨ins, by rw [hv]; exact c⟩).1
            omega
          have inn := (fv p.lo pin).2
          rw [hst, ← ea, ← eb, q1] at z
          rcases w1 with w | w
          · rw [w] at st z
            rw [show valS s p.lo = lowF r F by omega, show n' = lowF r F - 1 by omega, Int.one_mul] at z
            exact off1 z
          · rw [w] at st z
            rw [show valS s p.lo = highF r F by omega, show n' = highF r F + 1 by omega] at z
            exact off2 (by omega)
        · have sl := S.left
          have lo1 : s.lo = p.lo := by
            have := ((q4 _).mp pin).1
            have h1 := this.1
            by_cases y : s.lo ≤ p.lo - 1
            · exact absurd ⟨y, fun g hg => by have := this.2 g hg; omega⟩ ins
            · omega
          have st' := S'.step i j'
          rw [lo1, st'] at sl
          have nv : n' = valS s (p.lo + 1) := by
            have h1 := S'.val _ i
            have h2 := S'.val _ j
            rw [hn] at h1
            rw [hn0] at h2
            have h1 := Option.some.inj h1
            have h2 := Option.some.inj h2
            have h3 : valS s' p.lo = valS s' (p.lo - 1) + s'.way := by
              unfold valS
              rw [show p.lo - s'.lo = (p.lo - 1 - s'.lo) + 1 by omega, Int.mul_add]
              omega
            have h4 := stepv p.lo
            rcases S'.w with a | a <;> rcases w1 with b | b <;> rw [a] at h3 sl <;> rw [b] at h4 sl <;> first | exact absurd rfl sl | omega
          have n2 := sv (p.lo + 1) pin1
          rw [(fv _ pin1).1, sampled_some, ← nv] at n2
          have n2 := Option.some.inj n2
          have n1 := sv p.lo pin
          rw [hn0, sampled_some] at n1
          have n1 := Option.some.inj n1
          rw [hst, ← ea, ← eb, n1, n2, Int.sub_self, show p.lo + 1 - p.lo = 1 by omega, Int.mul_zero, Int.mul_one] at z
          generalize p.way * wayF F = W at *
          omega
  · dsimp only at z hg
    rw [q2] at hg
    cases hg
    rcases step_cases (fun x => sampled r (mixF dial ss x)) e with h | ⟨a, b, x0, ha, hb, hst⟩
    · exact wne (z ▸ h)
    · cases hn : mixF dial ss (e + 1) with
      | none => rw [hn] at hb; cases hb
      | some n' =>
        have hn0 := (fv e pie).1
        obtain ⟨s', hs', i, j⟩ := mixed_two P x0 hn0 hn
        have S' := mixed_isl P hs'
        rw [hn, sampled_some] at hb
        rw [hn0, sampled_some] at ha
        have ea := Option.some.inj ha
        have eb := Option.some.inj hb
        by_cases ins : inS s (e + 1)
        · have hv := Option.some.inj ((S.val _ ins).symm.trans hn)
          have st := stepv e
          rw [hv] at st
          have out : ¬ (lowF r F ≤ n' ∧ n' ≤ highF r F) := fun c => by
            have := ((q4 (e + 1)).mpr ⟨ins, by rw [hv]; exact c⟩).2 e q2
            omega
          have inn := (fv e pie).2
          rw [hst, ← ea, ← eb, q1] at z
          rcases w1 with w | w
          · rw [w] at st z
            rw [show valS s e = highF r F by omega, show n' = highF r F + 1 by omega, Int.one_mul] at z
            exact off2 z
          · rw [w] at st z
            rw [show valS s e = lowF r F by omega, show n' = lowF r F - 1 by omega] at z
            exact off1 (by omega)
        · have he : s.hi = some e := by
            have := ((q4 _).mp pie).1
            cases hh : s.hi with
            | none => exact absurd ⟨by have := this.1; omega, fun g hg => by rw [hh] at hg; cases hg⟩ ins
            | some g =>
              have h1 := this.2 g hh
              by_cases y : e + 1 ≤ g
              · exact absurd ⟨by have := this.1; omega, fun g' hg => by rw [hh] at hg; cases hg; exact y⟩ ins
              · congr 1; omega
          have sl := S.right e he
          have st' := S'.step i j
          rw [st'] at sl
          have nv : n' = valS s (e - 1) := by
            have h1 := S'.val _ i
            have h2 := S'.val _ j
            rw [hn0] at h1
            rw [hn] at h2
            have h1 := Option.some.inj h1
            have h2 := Option.some.inj h2
            have h3 : valS s' (e + 1) = valS s' e + s'.way := by
              unfold valS
              rw [show e + 1 - s'.lo = (e - s'.lo) + 1 by omega, Int.mul_add]
              omega
            have h4 := stepv (e - 1)
            rw [Int.sub_add_cancel] at h4
            rcases S'.w with a | a <;> rcases w1 with b | b <;> rw [a] at h3 sl <;> rw [b] at h4 sl <;> first | exact absurd rfl sl | omega
          have n2 := sv (e - 1) pie1
          rw [(fv _ pie1).1, sampled_some, ← nv] at n2
          have n2 := Option.some.inj n2
          have n1 := sv e pie
          rw [hn0, sampled_some] at n1
          have n1 := Option.some.inj n1
          rw [hst, ← ea, ← eb, n1, n2, show e - p.lo = (e - 1 - p.lo) + 1 by omega, Int.mul_add, Int.mul_one] at z
          generalize p.way * wayF F * (e - 1 - p.lo) = Z at *
          generalize p.way * wayF F = W at *
          omega
end Kx

set_option Elab.async false
set_option linter.all false
set_option maxRecDepth 100000
set_option maxHeartbeats 4000000
namespace Kx
open PySem PySem.Spec PyProof.Rows L2 HX
/-! ### the slopes with an index are all slopes of the tones -/
def toneF (dial : Int) (ss : List Stg) : Option Int → Int → Option Int
  | none, x => mixF dial ss x
  | some r, x => sampled r (mixF dial ss x)
theorem nth_at {rate : Option Int} (h2 : ∀ r, rate = some r → 2 ≤ r ∧ Sm r) : ∀ (S : List Sx), (∀ s ∈ S, SlopeOk s) → S.Pairwise Ahead → ∀ s ∈ S, ∀ k : Int, 0 ≤ k → (∀ c, countM s rate = some c → k < c) →
    ∃ i, 0 ≤ i ∧ i.natAbs ≤ S.length * (15 * 2 ^ 2000) + k.natAbs ∧ nthS rate S i = some (madeS s rate k)
  | [], _, _, s, hs, _, _, _ => nomatch hs
  | s0 :: S, ok, asc, s, hs, k, k0, hk => by
    obtain ⟨a1, a2⟩ := List.pairwise_cons.mp asc
    rcases List.mem_cons.mp hs with e | hs
    · subst e
      refine ⟨k, k0, Nat.le_add_left _ _, ?_⟩
      rw [nthS]
      cases hc : countM s rate with
      | none => rfl
      | some c =>
        dsimp only
        rw [if_pos (hk c hc)]
    · obtain ⟨i, i0, ib, e⟩ := nth_at h2 S (fun x hx => ok x (List.mem_cons_of_mem _ hx)) a2 s hs k k0 hk
      obtain ⟨g, hg, _⟩ := a1 s hs
      have o0 := ok s0 List.mem_cons_self
      obtain ⟨c, hc, c0, cb⟩ : ∃ c, countM s0 rate = some c ∧ 0 ≤ c ∧ c.natAbs ≤ 15 * 2 ^ 2000 := by
        cases rate with
        | none => exact ⟨1, rfl, by decide, by decide +kernel⟩
        | some r =>
          obtain ⟨l, hl⟩ : ∃ l, (foldsA s0 r).2 = some l := by unfold foldsA; rw [hg]; exact ⟨_, rfl⟩
          have hc : countM s0 (some r) = some (l - (foldsA s0 r).1 + 1) := by unfold countM; dsimp only; rw [hl]
          have c0 := count_nn o0 h2 hc
          obtain ⟨f1, f2⟩ := folds_bd (r := r) o0.w o0.b
          exact ⟨_, hc, c0, bd_key f1 (f2 l hl) (by decide +kernel) c0⟩
      refine ⟨i + c, by omega, ?_, ?_⟩
      · rw [List.length_cons, Nat.add_mul, Nat.one_mul]
        generalize S.length * (15 * 2 ^ 2000) = Z at *
        generalize 15 * 2 ^ 2000 = Y at *
        omega
      · rw [nthS, hc]
        dsimp only
        rw [if_neg (by omega), show i + c - c = i by omega]
        exact e
theorem nth_isl {dial i : Int} {ss : List Stg} {rate : Option Int} {t : Sx} (P : PassOk ss) (G : Gd rate (slopesOf dial ss)) (i0 : 0 ≤ i) (ib : i.natAbs ≤ 2 ^ 2500) (h : nthS rate (slopesOf dial ss) i = some t) : IsSl (toneF dial ss rate) t := by
  obtain ⟨s, hs, k, hk, m, e⟩ := nth_mem G.h2 _ i t (fun s hs => (G.ok s hs).1) i0 ib h
  subst e
  cases rate with
  | none => exact mixed_isl P hs
  | some r => exact made_isl P hs m
theorem room_nth {n : Nat} (h : n ≤ 256) {k : Int} (hk : k.natAbs ≤ 20 * 2 ^ 2000) : n * (15 * 2 ^ 2000) + k.natAbs ≤ 2 ^ 2500 := by
  have h1 : n * (15 * 2 ^ 2000) ≤ 256 * (15 * 2 ^ 2000) := Nat.mul_le_mul_right _ h
  have h2 : 256 * (15 * 2 ^ 2000) + 20 * 2 ^ 2000 ≤ 2 ^ 2500 := by decide +kernel
  omega
/-- where the tone steps, there is a slope, and it has begun -/
theorem nth_has {dial x : Int} {ss : List Stg} {rate : Option Int} (P : PassOk ss) (G : Gd rate (slopesOf dial ss)) (xb : x.natAbs < 2 ^ 1990) (h : stepF (toneF dial ss rate) x ≠ 0) :
    ∃ i t, 0 ≤ i ∧ i < countBegun rate x (slopesOf dial ss) ∧ nthS rate (slopesOf dial ss) i = some t ∧ inS t x ∧ inS t (x + 1) := by
  have fin : ∀ i t, 0 ≤ i → i.natAbs ≤ 2 ^ 2500 → nthS rate (slopesOf dial ss) i = some t → inS t x → inS t (x + 1) →
      ∃ i t, 0 ≤ i ∧ i < countBegun rate x (slopesOf dial ss) ∧ nthS rate (slopesOf dial ss) i = some t ∧ inS t x ∧ inS t (x + 1) := fun i t i0 ib e h1 h2 =>
    ⟨i, t, i0, (G.key e i0 ib (Int.le_trans (G.ge0 e i0 ib) h1.1) xb).mp h1.1, e, h1, h2⟩
  cases rate with
  | none =>
    obtain ⟨s, hs, h1, h2⟩ := mixed_has P (show stepF (mixF dial ss) x ≠ 0 from h)
    obtain ⟨i, i0, ib, e⟩ := nth_at G.h2 _ (fun s hs => (G.ok s hs).1) G.asc s hs 0 (Int.le_refl _) (fun c hc => by cases hc; decide)
    exact fin i s i0 (Nat.le_trans ib (room_nth G.len (Nat.zero_le _))) e h1 h2
  | some r =>
    have hr := (G.h2 r rfl).1
    rcases step_cases (toneF dial ss (some r)) x with z | ⟨a, b, x0, ha, hb, hst⟩
    · exact absurd z h
    · cases hn : mixF dial ss x with
      | none => rw [show toneF dial ss (some r) x = sampled r (mixF dial ss x) from rfl, hn] at ha; cases ha
      | some n =>
        cases hm : mixF dial ss (x + 1) with
        | none => rw [show toneF dial ss (some r) (x + 1) = sampled r (mixF dial ss (x + 1)) from rfl, hm] at hb; cases hb
        | some n' =>
          rw [show toneF dial ss (some r) x = sampled r (mixF dial ss x) from rfl, hn, sampled_some] at ha
          rw [show toneF dial ss (some r) (x + 1) = sampled r (mixF dial ss (x + 1)) from rfl, hm, sampled_some] at hb
          have ne : sampI r n ≠ sampI r n' := fun z => h (by
            have ea := Option.some.inj ha
            have eb := Option.some.inj hb
            rw [hst, ← ea, ← eb, z]; omega)
          obtain ⟨s, hs, i1, i2⟩ := mixed_two P x0 hn hm
          have S := mixed_isl P hs
          have o := (G.ok s hs).1
          have bd := (G.ok s hs).2.1
          have vn := Option.some.inj ((S.val x i1).symm.trans hn)
          have vm := Option.some.inj ((S.val _ i2).symm.trans hm)
          have st : valS s (x + 1) = valS s x + s.way := by
            unfold valS
            rw [show x + 1 - s.lo = (x - s.lo) + 1 by omega, Int.mul_add]
            omega
          rw [vn, vm] at st
          -- the lesser number, and its fold
          obtain ⟨y, hy⟩ : ∃ y, y = mnI n n' := ⟨_, rfl⟩
          have yy : (y = n ∧ n' = y + 1) ∨ (y = n' ∧ n = y + 1) := by
            rw [hy]
            show ((if n' < n then n' else n) = n ∧ n' = (if n' < n then n' else n) + 1) ∨ ((if n' < n then n' else n) = n' ∧ n = (if n' < n then n' else n) + 1)
            rcases o.w with w | w <;> rw [w] at st <;> split <;> omega
          have f1 : lowF r (lfold r y) ≤ y := (lfold_iff hr).mp (Int.le_refl _)
          have f2 : ¬ lowF r (lfold r y + 1) ≤ y := fun z => by
            have := (lfold_iff hr).mpr z
            omega
          have f3 : y + 1 ≤ highF r (lfold r y) := by
            obtain ⟨k1, k2⟩ := fold_pm (r := r) (F := lfold r y)
            by_cases e : lfold r y % 2 = 0
            · obtain ⟨b1, b2, _, _, b5, b6⟩ := k1 e
              by_cases z : y + 1 ≤ highF r (lfold r y)
              · exact z
              · exfalso
                -- between the folds of an odd rate the tones are alike
                have l1 := low_lt (f := lfold r y) hr
                have l2 := low_lt (f := lfold r y + 1) hr
                have s1 := samp_in (F := lfold r y) (n := y) hr f1 (by omega)
                have s2 := samp_in (F := lfold r y + 1) (n := y + 1) hr (by omega) (by omega)
                rw [if_pos e] at s1
                rw [if_neg (show ¬ (lfold r y + 1) % 2 = 0 by omega)] at s2
                rcases yy with ⟨q1, q2⟩ | ⟨q1, q2⟩
                · rw [← q1, q2] at ne
                  omega
                · rw [q2, ← q1] at ne
                  omega
            · obtain ⟨b1, b2, _, _, b5, b6⟩ := k2 e
              omega
          generalize hF : lfold r y = F at *
          have yb : y.natAbs ≤ 4 * 2 ^ 1990 := by
            have := bd.lo
            have := bd.num
            have v0 : valS s x = s.num + s.way * (x - s.lo) := rfl
            generalize (2 : Nat) ^ 1990 = B at *
            rcases o.w with w | w <;> rw [w] at v0 <;> omega
          have up : 4 * (2 : Nat) ^ 1990 ≤ 2 ^ 2000 := by decide +kernel
          have Fb : F.natAbs ≤ 2 * 2 ^ 2000 + 3 := by
            have := lfold_bd r y
            rw [hF] at this
            omega
          obtain ⟨g1, g2⟩ := folds_bd (r := r) o.w o.b
          have big : (100 : Nat) ≤ 2 ^ 2000 := by decide +kernel
          -- its place among the folds of the slope
          have first : (foldsA s r).1 ≤ F := by
            unfold foldsA
            cases hh : s.hi with
            | none =>
              dsimp only
              refine (ffold_iff hr).mpr ?_
              have w := o.up hh
              rw [w] at st
              have := i1.1
              have v0 : valS s x = s.num + s.way * (x - s.lo) := rfl
              rw [w] at v0
              omega
            | some g =>
              dsimp only
              refine (ffold_iff hr).mpr ?_
              have := i1.1
              have := i2.2 g hh
              have v0 : valS s x = s.num + s.way * (x - s.lo) := rfl
              have e0 : endOf s g = s.num + s.way * (g - s.lo) := rfl
              have mn : mnI s.num (endOf s g) ≤ y := by
                show (if endOf s g < s.num then endOf s g else s.num) ≤ y
                rcases o.w with w | w <;> rw [w] at v0 e0 st <;> split <;> omega
              omega
          have last : ∀ l, (foldsA s r).2 = some l → F ≤ l := fun l hl => by
            unfold foldsA at hl
            cases hh : s.hi with
            | none => rw [hh] at hl; cases hl
            | some g =>
              rw [hh] at hl
              cases hl
              refine (lfold_iff hr).mpr ?_
              have := i1.1
              have := i2.2 g hh
              have v0 : valS s x = s.num + s.way * (x - s.lo) := rfl
              have e0 : endOf s g = s.num + s.way * (g - s.lo) := rfl
              have mx : y + 1 ≤ mxI s.num (endOf s g) := by
                show y + 1 ≤ (if endOf s g > s.num then endOf s g else s.num)
                rcases o.w with w | w <;> rw [w] at v0 e0 st <;> split <;> omega
              omega
          obtain ⟨k, hk⟩ : ∃ k, k = if s.way = 1 then F - (foldsA s r).1 else (foldsA s r).2.getD 0 - F := ⟨_, rfl⟩
          have wn : s.way ≠ 1 → ∃ l, (foldsA s r).2 = some l := fun w => by
            cases hh : s.hi with
            | none => exact absurd (o.up hh) w
            | some g => unfold foldsA; rw [hh]; exact ⟨_, rfl⟩
          have k0 : 0 ≤ k := by
            rw [hk]
            split
            · omega
            · rename_i w
              obtain ⟨l, hl⟩ := wn w
              have := last l hl
              rw [hl, Option.getD_some]
              omega
          have kb : k.natAbs ≤ 20 * 2 ^ 2000 := by
            rw [hk]
            generalize (2 : Nat) ^ 2000 = B at *
            split
            · omega
            · rename_i w
              obtain ⟨l, hl⟩ := wn w
              have := g2 l hl
              rw [hl, Option.getD_some]
              omega
          have kc : ∀ c, countM s (some r) = some c → k < c := fun c hc => by
            unfold countM at hc
            dsimp only at hc
            cases hl : (foldsA s r).2 with
            | none => rw [hl] at hc; cases hc
            | some l =>
              rw [hl] at hc
              cases hc
              have := last l hl
              rw [hk, hl, Option.getD_some]
              split <;> omega
          have ef : foldOf s r k = F := by
            unfold foldOf
            rw [hk]
            split
            · omega
            · omega
          obtain ⟨i, i0, ib, e⟩ := nth_at G.h2 _ (fun s hs => (G.ok s hs).1) G.asc s hs k k0 kc
          have kb2 : k.natAbs ≤ 2 ^ 2500 := Nat.le_trans kb (by decide +kernel)
          have m : MadeOk s (some r) k := ⟨o.w, o.b, o.up, o.lt, G.h2, k0, kb2, kc⟩
          obtain ⟨p, hp⟩ := made_cut m
          have et : madeS s (some r) k = ⟨p.lo, p.hi, sampI r p.num, p.way * wayF (foldOf s r k)⟩ := by unfold madeS; dsimp only; rw [hp]
          obtain ⟨_, _, q4, _⟩ := (cutN_all S.w (fun g e => Int.le_of_lt (S.lt g e)) (low_high (f := foldOf s r k) hr)).1 p hp
          rw [ef] at q4
          have j1 : inS p x := (q4 x).mpr ⟨i1, by rw [vn]; omega, by rw [vn]; omega⟩
          have j2 : inS p (x + 1) := (q4 _).mpr ⟨i2, by rw [vm]; omega, by rw [vm]; omega⟩
          rw [et] at e
          exact fin i _ i0 (Nat.le_trans ib (room_nth G.len kb)) e ⟨j1.1, j1.2⟩ ⟨j2.1, j2.2⟩
end Kx

set_option Elab.async false
set_option linter.all false
set_option maxRecDepth 100000
set_option maxHeartbeats 4000000
namespace Kx
open PySem PySem.Spec PyProof.Rows L2 HX
/-! ### the slopes that have a signal -/
theorem range1 {α : Type} (f : Nat → Option α) {a : α} (h : f 0 = some a) : (List.range 1).filterMap f = [a] := by
  rw [show List.range 1 = [0] from rfl, List.filterMap_cons, h]
  rfl
theorem range2 {α : Type} (f : Nat → Option α) {a b : α} (h : f 0 = some a) (k : f 1 = some b) : (List.range 2).filterMap f = [a, b] := by
  rw [show List.range 2 = [0, 1] from rfl, List.filterMap_cons, h, List.filterMap_cons, k]
  rfl
theorem slopesAt_spec {dial x : Int} {ss : List Stg} {rate : Option Int} (P : PassOk ss) (G : Gd rate (slopesOf dial ss)) (x0 : 0 ≤ x) (xb : x.natAbs < 2 ^ 1990) :
    (slopesAtL rate (slopesOf dial ss) x = [] ∧ stepF (toneF dial ss rate) (x - 1) = 0 ∧ stepF (toneF dial ss rate) x = 0) ∨
    (∃ u, slopesAtL rate (slopesOf dial ss) x = [u] ∧ IsSl (toneF dial ss rate) u ∧ inS u x ∧
      ((stepF (toneF dial ss rate) (x - 1) = u.way ∧ stepF (toneF dial ss rate) x = 0) ∨ (stepF (toneF dial ss rate) (x - 1) = 0 ∧ stepF (toneF dial ss rate) x = u.way) ∨ (stepF (toneF dial ss rate) (x - 1) = u.way ∧ stepF (toneF dial ss rate) x = u.way)) ∧
      ∃ i, 0 ≤ i ∧ i ≤ x ∧ nthS rate (slopesOf dial ss) i = some u) ∨
    (∃ v u, slopesAtL rate (slopesOf dial ss) x = [v, u] ∧ IsSl (toneF dial ss rate) v ∧ IsSl (toneF dial ss rate) u ∧ v.hi = some x ∧ u.lo = x ∧ stepF (toneF dial ss rate) (x - 1) = v.way ∧ stepF (toneF dial ss rate) x = u.way ∧ v.way ≠ u.way ∧
      (∃ i, 0 ≤ i ∧ i ≤ x ∧ nthS rate (slopesOf dial ss) i = some v) ∧ ∃ i, 0 ≤ i ∧ i ≤ x ∧ nthS rate (slopesOf dial ss) i = some u) := by
  obtain ⟨m0, mb⟩ := G.cnt x0 xb
  have mle := G.le x0 xb
  have isl : ∀ i t, 0 ≤ i → i < countBegun rate x (slopesOf dial ss) → nthS rate (slopesOf dial ss) i = some t → IsSl (toneF dial ss rate) t ∧ t.lo ≤ x := fun i t i0 il e => by
    have ib : i.natAbs ≤ 2 ^ 2500 := Nat.le_trans (show i.natAbs ≤ (countBegun rate x (slopesOf dial ss)).natAbs by omega) mb
    exact ⟨nth_isl P G i0 ib e, (G.key e i0 ib x0 xb).mpr il⟩
  -- a step at the signal, or ahead of it, has its slope
  have has : ∀ y, (y = x ∨ y = x - 1) → stepF (toneF dial ss rate) y ≠ 0 → ∃ i t, 0 ≤ i ∧ i < countBegun rate x (slopesOf dial ss) ∧ nthS rate (slopesOf dial ss) i = some t ∧ inS t x ∧ t.way = stepF (toneF dial ss rate) y ∧ inS t y ∧ inS t (y + 1) := fun y hy h => by
    have yb : y.natAbs < 2 ^ 1990 := by
      rcases hy with rfl | rfl
      · exact xb
      · rcases step_cases (toneF dial ss rate) (x - 1) with z | ⟨a, b, q, _⟩
        · exact absurd z h
        · exact Nat.lt_of_le_of_lt (by omega) xb
    obtain ⟨i, t, i0, il, e, j1, j2⟩ := nth_has P G yb h
    have yx : y ≤ x := by rcases hy with z | z <;> omega
    have il' : i < countBegun rate x (slopesOf dial ss) := by
      have y0 : 0 ≤ y := by
        rcases step_cases (toneF dial ss rate) y with z | ⟨a, b, q, _⟩
        · exact absurd z h
        · exact q
      have := begun_mono G.h2 G.ok G.asc G.len y0 yx yb xb
      omega
    refine ⟨i, t, i0, il', e, ?_, ((isl i t i0 il' e).1.step j1 j2).symm, j1, j2⟩
    rcases hy with rfl | rfl
    · exact j1
    · rw [Int.sub_add_cancel] at j2; exact j2
  have sep : ∀ i j t u, 0 ≤ i → i < j → j < countBegun rate x (slopesOf dial ss) → nthS rate (slopesOf dial ss) i = some t → nthS rate (slopesOf dial ss) j = some u → t.lo < u.lo ∧ ∃ g, t.hi = some g ∧ g ≤ u.lo := fun i j t u i0 ij jl e1 e2 => by
    have jb : j.natAbs ≤ 2 ^ 2500 := Nat.le_trans (show j.natAbs ≤ (countBegun rate x (slopesOf dial ss)).natAbs by omega) mb
    have lt := G.strict e1 e2 i0 ij jb
    exact ⟨lt, (isl i t i0 (by omega) e1).1.sep (isl j u (by omega) jl e2).1 lt⟩
  have rch : ∀ t : Sx, reach x t = true ↔ ∀ g, t.hi = some g → x ≤ g := fun t => by
    unfold reach
    cases t.hi with
    | none => exact ⟨fun _ g e => (by cases e), fun _ => rfl⟩
    | some g =>
      dsimp only
      rw [decide_eq_true_eq]
      exact ⟨fun h g' e => (by cases e; exact h), fun h => h g rfl⟩
  have some_ := fun i h h0 => G.some_ (w := x) (i := i) h h0
  unfold slopesAtL lastTwo
  generalize hM : countBegun rate x (slopesOf dial ss) = M at *
  by_cases z0 : M = 0
  · refine .inl ⟨?_, ?_, ?_⟩
    · rw [z0, show (0 - firstOf 0).toNat = 0 from by decide]
      rfl
    · by_cases q : stepF (toneF dial ss rate) (x - 1) = 0
      · exact q
      · obtain ⟨i, t, i0, il, _⟩ := has _ (.inr rfl) q
        omega
    · by_cases q : stepF (toneF dial ss rate) x = 0
      · exact q
      · obtain ⟨i, t, i0, il, _⟩ := has _ (.inl rfl) q
        omega
  · obtain ⟨u, hu⟩ := some_ (M - 1) (by omega) (by omega)
    obtain ⟨iu, lu⟩ := isl _ u (by omega) (by omega) hu
    -- whatever slope has the signal is the last one, or touches it there
    have only : ∀ i t, 0 ≤ i → i < M → nthS rate (slopesOf dial ss) i = some t → inS t x → t = u ∨ (i = M - 2 ∧ t.hi = some x ∧ u.lo = x) := fun i t i0 il e it => by
      by_cases q : i = M - 1
      · rw [q, hu] at e
        cases e
        exact .inl rfl
      · obtain ⟨lt, g, hg, hl⟩ := sep i (M - 1) t u i0 (by omega) (by omega) e hu
        have := it.2 g hg
        have gx : g = x := by omega
        refine .inr ⟨?_, by rw [hg, gx], by omega⟩
        by_cases q2 : i = M - 2
        · exact q2
        · obtain ⟨w, hw⟩ := some_ (M - 2) (by omega) (by omega)
          obtain ⟨lt1, g', hg', hl'⟩ := sep i (M - 2) t w i0 (by omega) (by omega) e hw
          obtain ⟨lt2, _⟩ := sep (M - 2) (M - 1) w u (by omega) (by omega) (by omega) hw hu
          rw [hg] at hg'
          cases hg'
          omega
    -- the last one alone has it, or none
    have alone : ∀ (nov : ∀ i t, 0 ≤ i → i < M → nthS rate (slopesOf dial ss) i = some t → inS t x → t = u) (L : List Sx), L = (if reach x u = true then [u] else []) →
        (L = [] ∧ stepF (toneF dial ss rate) (x - 1) = 0 ∧ stepF (toneF dial ss rate) x = 0) ∨
        (∃ u, L = [u] ∧ IsSl (toneF dial ss rate) u ∧ inS u x ∧
          ((stepF (toneF dial ss rate) (x - 1) = u.way ∧ stepF (toneF dial ss rate) x = 0) ∨ (stepF (toneF dial ss rate) (x - 1) = 0 ∧ stepF (toneF dial ss rate) x = u.way) ∨ (stepF (toneF dial ss rate) (x - 1) = u.way ∧ stepF (toneF dial ss rate) x = u.way)) ∧
          ∃ i, 0 ≤ i ∧ i ≤ x ∧ nthS rate (slopesOf dial ss) i = some u) ∨
        (∃ v u, L = [v, u] ∧ IsSl (toneF dial ss rate) v ∧ IsSl (toneF dial ss rate) u ∧ v.hi = some x ∧ u.lo = x ∧ stepF (toneF dial ss rate) (x - 1) = v.way ∧ stepF (toneF dial ss rate) x = u.way ∧ v.way ≠ u.way ∧
          (∃ i, 0 ≤ i ∧ i ≤ x ∧ nthS rate (slopesOf dial ss) i = some v) ∧ ∃ i, 0 ≤ i ∧ i ≤ x ∧ nthS rate (slopesOf dial ss) i = some u) := fun nov L hL => by
      have at_ : ∀ y, (y = x ∨ y = x - 1) → stepF (toneF dial ss rate) y ≠ 0 → inS u x ∧ u.way = stepF (toneF dial ss rate) y := fun y hy h => by
        obtain ⟨i, t, i0, il, e, it, hw, _⟩ := has y hy h
        have := nov i t i0 il e it
        rw [this] at it hw
        exact ⟨it, hw⟩
      by_cases ru : reach x u = true
      · rw [if_pos ru] at hL
        have ix : inS u x := ⟨lu, (rch u).mp ru⟩
        refine .inr (.inl ⟨u, hL, iu, ix, ?_, M - 1, by omega, by omega, hu⟩)
        by_cases qa : stepF (toneF dial ss rate) (x - 1) = 0
        · refine .inr (.inl ⟨qa, ?_⟩)
          -- the slope goes on behind the signal
          have hlo : u.lo = x := by
            by_cases y : u.lo = x
            · exact y
            · exfalso
              have st := iu.step (x := x - 1) ⟨by omega, fun g e => by have := ix.2 g e; omega⟩ (by rw [Int.sub_add_cancel]; exact ix)
              rw [qa] at st
              rcases iu.w with w | w <;> rw [w] at st <;> cases st
          have st := iu.step (x := x) ix (by rw [← hlo]; exact iu.first.2)
          exact st
        · obtain ⟨_, ha⟩ := at_ _ (.inr rfl) qa
          by_cases qb : stepF (toneF dial ss rate) x = 0
          · exact .inl ⟨ha.symm, qb⟩
          · exact .inr (.inr ⟨ha.symm, (at_ _ (.inl rfl) qb).2.symm⟩)
      · rw [if_neg ru] at hL
        refine .inl ⟨hL, ?_, ?_⟩
        · by_cases q : stepF (toneF dial ss rate) (x - 1) = 0
          · exact q
          · exact absurd ((rch u).mpr (at_ _ (.inr rfl) q).1.2) ru
        · by_cases q : stepF (toneF dial ss rate) x = 0
          · exact q
          · exact absurd ((rch u).mpr (at_ _ (.inl rfl) q).1.2) ru
    by_cases z1 : M = 1
    · subst z1
      have e1 : (1 - firstOf 1).toNat = 1 := by decide
      rw [e1, range1 (a := u) _ (by rw [show firstOf 1 + ((0 : Nat) : Int) = 1 - 1 from by decide]; exact hu)]
      refine alone (fun i t i0 il e it => ?_) _ ?_
      · rcases only i t i0 il e it with h | ⟨h, _⟩
        · exact h
        · omega
      · rw [List.filter_cons, List.filter_nil]
    · obtain ⟨v, hv⟩ := some_ (M - 2) (by omega) (by omega)
      obtain ⟨iv, lv⟩ := isl _ v (by omega) (by omega) hv
      have ef : firstOf M = M - 2 := by unfold firstOf; split <;> omega
      rw [ef, show (M - (M - 2)).toNat = 2 by omega, range2 (a := v) (b := u) _ (by rw [show M - 2 + ((0 : Nat) : Int) = M - 2 by omega]; exact hv) (by rw [show M - 2 + ((1 : Nat) : Int) = M - 1 by omega]; exact hu)]
      obtain ⟨lt, g, hg, hl⟩ := sep (M - 2) (M - 1) v u (by omega) (by omega) (by omega) hv hu
      by_cases rv : reach x v = true
      · have := (rch v).mp rv g hg
        have gx : g = x := by omega
        have ux : u.lo = x := by omega
        have ru : reach x u = true := (rch u).mpr fun g' e => by have := iu.lt g' e; omega
        have st2 := iu.step (x := x) (by rw [← ux]; exact iu.first.1) (by rw [← ux]; exact iu.first.2)
        have st1 := iv.step (x := x - 1) ⟨by omega, fun g' e => (by rw [hg] at e; cases e; omega)⟩ (by rw [Int.sub_add_cancel]; exact ⟨lv, fun g' e => (by rw [hg] at e; cases e; omega)⟩)
        refine .inr (.inr ⟨v, u, ?_, iv, iu, by rw [hg, gx], ux, st1, st2, ?_, ⟨M - 2, by omega, by omega, hv⟩, M - 1, by omega, by omega, hu⟩)
        · rw [List.filter_cons, rv, if_pos rfl, List.filter_cons, ru, if_pos rfl, List.filter_nil]
        · have := iv.right g hg
          rw [gx, st2] at this
          exact fun z => this z.symm
      · refine alone (fun i t i0 il e it => ?_) _ ?_
        · rcases only i t i0 il e it with h | ⟨h, h2, h3⟩
          · exact h
          · exfalso
            rw [h, hv] at e
            cases e
            exact rv ((rch _).mpr fun g' e' => by rw [h2] at e'; cases e'; exact Int.le_refl _)
        · rw [List.filter_cons, if_neg rv, List.filter_cons, List.filter_nil]
end Kx

set_option Elab.async false
set_option linter.all false
set_option maxRecDepth 100000
set_option maxHeartbeats 2000000
namespace Kx
open PySem PySem.Spec PyProof.Rows L2 HX
open Evl (Ex)
/-! ### a def that may raise, called by keywords -/
def HasKX (P : Program) (w : World) (K : PySem.W.Frag) (mg : Str → Option Value) (base : Heap) (k : Nat) (x : Str) (ks : List Str) (g : List Value → List Value) (gV : List V → List V) (sp : Sp) : Prop :=
  ∃ (f : Addr) (fd : FuncData) (ps : List Str), FnOk P w K mg base (L2N.CX P w) k f fd ps sp ∧ mg x = some (.ref f) ∧ PySem.W.keepIn K (.ref f) = true ∧ KBn K fd ps 0 ks (fun _ ws => g ws) (fun _ zs => gV zs)
theorem passN0 {X : Cx} : Passes (L2N.CX X.prog X.w) X E0 := fun pins σ H s e s' I c => takes0N e s' (L2N.XE.of_call I (fun _ _ _ h => h) c)
section
variable {X : Cx} {k n : Nat} {sp : Sp} {x : Str} {p pos : Pos} {kws : List Keyword} {tk : TA} {ks : List Str} {g : List Value → List Value} {gV : List V → List V}
theorem pe_kwX (h : HasKX X.prog X.w X.K X.mg X.base k x ks g gV sp) (hr : Room n X.A) (hg : Gl X x) (hkw : PK X kws tk) (hkn : k ≤ n := by decide)
    (hall : (backToKw pos (keywordEach kws X.env)).all (·.1.isSome) = true := by rfl) (hks : (backToKw pos (keywordEach kws X.env)).filterMap (·.1) = ks := by rfl) (hdb : (x == ("__debug__" : Str)) = false := by decide)
    (hpl : ((backTo pos (starEach [] X.env)).any (·.1) || (backToKw pos (keywordEach kws X.env)).any (·.1.isNone)) = false := by rfl) :
    PE X (.Call (.Name x p) [] kws pos) (tKw ks.length sp gV tk) := by
  obtain ⟨f, fd, ps, F, hm, hk, hb⟩ := h
  refine ⟨fun pins s σ H Q I h => ?_⟩
  refine wpAny_Call_Name_kw (ld_glob I hg hm ?_ hdb)
  refine PySem.W.callWith_KW0 (h₀ := X.base) I.ok.mod.kin hk hall ?_ hpl
  refine thn (hkw.run pos pins s σ H _ I h) fun ws s2 ⟨zs, H2, I2, rz, l2, q2⟩ => ⟨I2.kIn, ?_⟩
  rw [hks]
  exact run_fnN (us := []) (vs := []) (n := 0) F (hr.mono hkn) hb passN0 I2 .nil rz rfl l2 q2
variable {e : Expr} {es : List Expr} {t : TA}
/-- by position; it raises nothing here -/
theorem pe_hs0X (h : HasX X.prog X.w X.K X.mg X.base k x sp) (hr : Room n X.A) (hg : Gl X x) (ha : PA X (e :: es) t) (hkn : k ≤ n := by decide) (hdb : (x == ("__debug__" : Str)) = false := by decide)
    (he : starEach (e :: es) X.env = (false, eval e X.env) :: starEach es X.env := by rfl) (hpl : (backTo pos (starEach es X.env)).any (·.1) = false := by rfl) :
    PE X (.Call (.Name x p) (e :: es) [] pos) (tCall sp [] E0 t) := by
  obtain ⟨f, fd, ps, F, hm, hk, hb⟩ := h
  exact pe_call F (hr.mono hkn) hg hm hk hb .nil passN0 ha hdb he hpl
end
end Kx

set_option Elab.async false
set_option linter.all false
set_option maxRecDepth 100000
namespace HX
open PySem PySem.Spec PyProof.Rows L2
open Evl (Ex)
/-! ### data of moderate size -/
structure Fine (w k : Nat) (d : PyData) : Prop where
  sh : d.showable = true
  lv : d.leavesShort 200 = true
  wt : d.weight ≤ w
  dp : d.depth ≤ k
theorem Fine.mono {w w' k k' : Nat} {d : PyData} (h : Fine w k d) (hw : w ≤ w') (hk : k ≤ k') : Fine w' k' d := ⟨h.sh, h.lv, Nat.le_trans h.wt hw, Nat.le_trans h.dp hk⟩
theorem Fine.none : Fine 0 0 .none := ⟨rfl, rfl, Nat.le_refl _, Nat.le_refl _⟩
theorem Fine.bool (b : Bool) : Fine 0 0 (.bool b) := ⟨rfl, rfl, Nat.le_refl _, Nat.le_refl _⟩
theorem Fine.int {i : Int} (h : i.natAbs < 2 ^ 600) : Fine 600 0 (.int i) := by
  have hl : i.natAbs.log2 < 600 := PySem.Flt.log2_lt_of (by decide) h
  have ht : (toString i).length ≤ 200 := Nat.le_trans (int_text_length_le10 (k := 182) (by decide) (Nat.lt_of_lt_of_le h (by decide +kernel))) (by decide)
  refine ⟨by simp [PyData.showable]; omega, ?_, ?_, Nat.le_refl _⟩
  · simp only [PyData.leavesShort, PyData.shown]
    refine decide_eq_true ?_
    show (Str.ofString (toString i)).length ≤ 200
    rw [PySem.ofString_length]
    exact ht
  · simp only [PyData.weight]
    split <;> omega
theorem Fine.str {x : Str} {n : Nat} (h : (PyData.str x).leavesShort 200 = true) (hn : x.cps.size ≤ n) : Fine n 0 (.str x) := ⟨rfl, h, hn, Nat.le_refl _⟩
theorem fine_all {w k : Nat} : ∀ {l : List PyData}, (∀ x ∈ l, Fine w k x) → PyData.showableAll l = true ∧ PyData.leavesShortAll 200 l = true ∧ PyData.weightAll l ≤ l.length * (w + 1) ∧ PyData.depthAll l ≤ k
  | [], _ => ⟨rfl, rfl, by simp [PyData.weightAll], by simp [PyData.depthAll]⟩
  | x :: l, h => by
    obtain ⟨h1, h2, h3, h4⟩ := fine_all fun y hy => h y (List.mem_cons_of_mem _ hy)
    have hx := h x List.mem_cons_self
    refine ⟨by simp [PyData.showableAll, hx.sh, h1], by simp [PyData.leavesShortAll, hx.lv, h2], ?_, ?_⟩
    · simp only [PyData.weightAll, List.length_cons]
      have := hx.wt
      rw [Nat.add_mul]
      omega
    · simp only [PyData.depthAll]
      have := hx.dp
      omega
theorem Fine.list {w k : Nat} {l : List PyData} (h : ∀ x ∈ l, Fine w k x) : Fine (l.length * (w + 1)) (k + 1) (.list l) := by
  obtain ⟨h1, h2, h3, h4⟩ := fine_all h
  exact ⟨by simpa [PyData.showable] using h1, by simpa [PyData.leavesShort] using h2, by simpa [PyData.weight] using h3, by simpa [PyData.depth] using h4⟩
theorem Fine.tuple {w k : Nat} {l : List PyData} (h : ∀ x ∈ l, Fine w k x) : Fine (l.length * (w + 1)) (k + 1) (.tuple l) := by
  obtain ⟨h1, h2, h3, h4⟩ := fine_all h
  exact ⟨by simpa [PyData.showable] using h1, by simpa [PyData.leavesShort] using h2, by simpa [PyData.weight] using h3, by simpa [PyData.depth] using h4⟩
theorem Fine.dict : Fine 0 1 (.dict []) := ⟨rfl, rfl, by simp [PyData.weight, PyData.weightKv], by simp [PyData.depth, PyData.depthKv]⟩
theorem Fine.shw {w k : Nat} {d : PyData} (h : Fine w k d) (hw : w ≤ 80000) (hk : k ≤ 60) : Shw d := by
  refine ⟨h.sh, ?_, Nat.le_trans h.dp hk⟩
  have := PyData.shown_le 200 (by decide) d h.lv
  have e : sizeLine = 16777216 := sizeLine_eq
  have hw' := Nat.le_trans h.wt hw
  omega
theorem two {l : List PyData} {a b : PyData} {R : PyData → Prop} (ha : R a) (hb : R b) : ∀ x ∈ [a, b], R x := by
  intro x hx
  rcases List.mem_cons.mp hx with rfl | hx
  · exact ha
  · rw [List.mem_singleton.mp hx]; exact hb
theorem go_repr {H : Hp} {Q : VK} {x : V} {d : PyData} {w k : Nat} (h : Dq H x d) (hf : Fine w k d) (hw : w ≤ 80000) (hk : k ≤ 60) (q : Q (.str d.shown) H) : rRepr [x] H Q := ⟨x, d, rfl, h, hf.shw hw hk, q⟩
end HX
namespace HX
open PySem PySem.Spec PyProof.Rows L2
def rListQ (K : PySem.W.Frag) : List V → Hp → VK → Prop := fun xs H Q => ∃ p ys, xs = [.ref p] ∧ (SqL K H p ys ∨ SqT K H p ys) ∧ ∀ l, H l = none → Q (.ref l) (upd H l (.lst ys))
theorem call_listQ {X : Cx} : CallR X (.type "list") (rListQ X.K) := call_list_of
theorem go_listL {K : PySem.W.Frag} {H : Hp} {Q : VK} {p : Addr} {ys : List V} (h : Rd H p (.lst ys)) (k : ∀ l, H l = none → Q (.ref l) (upd H l (.lst ys))) : rListQ K [.ref p] H Q := ⟨p, ys, rfl, .inl (.inl h), k⟩
end HX

set_option Elab.async false
set_option linter.all false
set_option maxRecDepth 100000
set_option maxHeartbeats 2000000
namespace Kx
open PySem PySem.Spec PyProof.Rows L2 HX
open Evl (Ex)
/-! ### the program's functions of slopes, called with what is right -/
theorem stgd_inj {s t : Stg} (h : s.d = t.d) : s = t := by
  have n1 : ¬ (("mix" : String) : Str) = ("dial" : String) := by decide +kernel
  have n2 : ¬ (("dial" : String) : Str) = ("mix" : String) := by decide +kernel
  cases s <;> cases t <;> simp_all [Stg.d]
theorem stgs_inj : ∀ {ss ts : List Stg}, ss.map Stg.d = ts.map Stg.d → ss = ts
  | [], [], _ => rfl
  | [], _ :: _, h => by cases h
  | _ :: _, [], h => by cases h
  | s :: ss, t :: ts, h => by
    rw [List.map_cons, List.map_cons] at h
    injection h with h1 h2
    rw [stgd_inj h1, stgs_inj h2]
theorem rad_inj {ss ss' : List Stg} {a b : Option Int} (h : radD ss a = radD ss' b) : ss = ss' ∧ a = b := by
  refine ⟨?_, radD_rate h⟩
  unfold radD at h
  injection h with h
  injection h with h _
  injection h with h
  exact stgs_inj h
theorem dial_d (s : Stg) : isDialD s.d = s.isDial := by cases s <;> rfl
theorem flt_right {b : Int} : ∀ (ss : List Stg) (i : Nat) (has : Bool), (∀ s ∈ ss, s.ok b) → dials ss + (if has then 1 else 0) ≤ 1 → fltS (ss.map Stg.d) i has = none
  | [], _, _, _, _ => rfl
  | s :: ss, i, has, ok, one => by
    have rest := fun x hx => ok x (List.mem_cons_of_mem _ hx)
    have h1 : isStage s.d = true := stg_stage (ok s List.mem_cons_self)
    show (if isStage s.d = true then (if isDialD s.d = true then (if has = true then some i else fltS (ss.map Stg.d) (i + 1) true) else fltS (ss.map Stg.d) (i + 1) has) else some i) = none
    have hd : dials (s :: ss) = (if s.isDial then 1 else 0) + dials ss := by
      unfold dials
      rw [List.filter_cons]
      cases s.isDial <;> simp [Nat.add_comm]
    rw [hd] at one
    rw [h1, if_pos rfl, dial_d]
    cases q : s.isDial with
    | true =>
      rw [q] at one
      cases has with
      | true => simp at one
      | false =>
        exact flt_right ss (i + 1) true rest (by simp at one ⊢; omega)
    | false =>
      rw [q] at one
      exact flt_right ss (i + 1) has rest (by simpa using one)
theorem fault_right {b : Int} {ss : List Stg} {rate : Option Int} (R : Rad b ss rate) : fault (radD ss rate) = none := by
  have hf : isFrame (radD ss rate) = true := by
    have h1 : 1 ≤ ss.length := List.length_pos_iff.mpr R.ne
    simp [radD, isFrame, h1, R.le]
  obtain ⟨sd, r, e, hfl⟩ := frame_yes hf
  obtain ⟨rfl, rfl⟩ : ss.map Stg.d = sd ∧ rateD rate = r := by simpa [radD] using e
  rw [hfl, flt_right ss 0 false R.ok (by simpa using R.one)]
  have hr : isRate (rateD rate) = true := by
    cases rate with
    | none => rfl
    | some r => simp [rateD, isRate, R.rate r rfl]
  rw [hr]
  rfl
/-- a receiver and a dial, no giants -/
structure Rc (dial : Int) (ss : List Stg) (rate : Option Int) : Prop where
  R : Rad (10 ^ 39) ss rate
  d : dial.natAbs ≤ 10 ^ 39
namespace Rc
variable {dial : Int} {ss : List Stg} {rate : Option Int}
theorem near (C : Rc dial ss rate) : ∀ s ∈ ss, s.near dial (2 ^ 140) := fun s hs => by
  have o := C.R.ok s hs
  have hd := C.d
  have e : (10 : Int) ^ 39 = 1000000000000000000000000000000000000000 := by decide +kernel
  have e2 : (2 : Nat) ^ 140 = 1393796574908163946345982392040522594123776 := by decide +kernel
  have e3 : (10 : Nat) ^ 39 = 1000000000000000000000000000000000000000 := by decide +kernel
  cases s with
  | mix lo =>
    obtain ⟨o1, o2⟩ := o
    show lo.natAbs ≤ _
    rw [e2]
    omega
  | dial a =>
    obtain ⟨o1, o2⟩ := o
    show (dial + a).natAbs ≤ _
    rw [e2]
    omega
  | pass a b =>
    obtain ⟨o1, o2, o3⟩ := o
    show a.natAbs ≤ _ ∧ b.natAbs ≤ _
    rw [e2]
    constructor <;> omega
theorem rates (C : Rc dial ss rate) : ∀ r, rate = some r → 2 ≤ r ∧ r.natAbs ≤ 2 ^ 150 := fun r hr => by
  have := C.R.rate r hr
  have e : (10 : Int) ^ 39 = 1000000000000000000000000000000000000000 := by decide +kernel
  have e2 : (2 : Nat) ^ 150 = 1427247692705959881058285969449495136382746624 := by decide +kernel
  rw [e2]
  omega
theorem sms (C : Rc dial ss rate) : ∀ r, rate = some r → 2 ≤ r ∧ Sm r := fun r hr => ⟨(C.rates r hr).1, Nat.lt_of_le_of_lt (C.rates r hr).2 (Nat.pow_lt_pow_right (by decide) (by decide))⟩
theorem gd (C : Rc dial ss rate) : Gd rate (slopesOf dial ss) := gd_of C.near C.R.le (by decide +kernel) C.sms
theorem low3 (C : Rc dial ss rate) {far : Int} (hf : far.natAbs < 2 ^ 1990) : Low3 (radD ss rate) (.int dial) (.int far) := fun ss' rate' dial' far' e1 e2 e3 => by
  obtain ⟨rfl, rfl⟩ := rad_inj e1
  cases e2
  cases e3
  exact ⟨⟨2 ^ 140, C.near, by decide +kernel⟩, fun r hr => (C.sms r hr).2, hf⟩
end Rc
theorem tell3 {CR CD CN : Addr} {dx dy dz : PyData} {H : Hp} {E : XK} {good : Prop} (h : fault dx = none) (h1 : isInt dy = true) (h2 : isNat dz = true) (g : good) : Tell3 CR CD CN dx dy dz H E good :=
  ⟨fun f e => (by rw [h] at e; cases e), fun _ z => (by rw [h1] at z; cases z), fun _ _ z => (by rw [h2] at z; cases z), fun _ _ _ => g⟩
section
variable {CR CD CN : Addr} {H : Hp} {Q : VK} {E : XK} {x : V} {ss : List Stg} {rate : Option Int} {dial far : Int}
theorem go_count (hx : Dq H x (radD ss rate)) (C : Rc dial ss rate) (f0 : 0 ≤ far) (fb : far.natAbs < 2 ^ 1990) (k : ∀ H', Ex H H' → Q (.int (countBegun rate far (slopesOf dial ss))) H') : spCountE CR CD CN [x, .int dial, .int far] H Q E := by
  refine ⟨x, .int dial, .int far, radD ss rate, .int dial, .int far, rfl, hx, .int _, .int _, C.low3 fb, tell3 (fault_right C.R) rfl (decide_eq_true f0) ?_⟩
  intro ss' rate' dial' far' e1 e2 e3 _ _ _ H' e
  obtain ⟨rfl, rfl⟩ := rad_inj e1
  cases e2
  cases e3
  exact k H' e
theorem go_nth (hx : Dq H x (radD ss rate)) (C : Rc dial ss rate) (f0 : 0 ≤ far) (fb : far.natAbs < 2 ^ 1990) (k1 : nthS rate (slopesOf dial ss) far = none → ∀ H', Ex H H' → Q .non H') (k2 : ∀ t, nthS rate (slopesOf dial ss) far = some t → ∀ v' H', Ex H H' → Tx H' v' t → Q v' H') :
    spNthE CR CD CN [x, .int dial, .int far] H Q E := by
  refine ⟨x, .int dial, .int far, radD ss rate, .int dial, .int far, rfl, hx, .int _, .int _, C.low3 fb, tell3 (fault_right C.R) rfl (decide_eq_true f0) ?_⟩
  intro ss' rate' dial' far' e1 e2 e3 _ _ _
  obtain ⟨rfl, rfl⟩ := rad_inj e1
  cases e2
  cases e3
  exact ⟨k1, k2⟩
end
/-- what nth_slope hands back: None, or a slope's tuple -/
def Ox (H : Hp) (v : V) : Option Sx → Prop
  | none => v = .non
  | some t => Tx H v t
theorem Ox.ex {H H' : Hp} {v : V} {o : Option Sx} (e : Ex H H') (h : Ox H v o) : Ox H' v o := by
  cases o with
  | none => exact h
  | some t => exact Tx.ex e h
theorem go_nthO {CR CD CN : Addr} {H : Hp} {Q : VK} {E : XK} {x : V} {ss : List Stg} {rate : Option Int} {dial far : Int} (hx : Dq H x (radD ss rate)) (C : Rc dial ss rate) (f0 : 0 ≤ far) (fb : far.natAbs < 2 ^ 1990) (k : ∀ v' H', Ex H H' → Ox H' v' (nthS rate (slopesOf dial ss) far) → Q v' H') :
    spNthE CR CD CN [x, .int dial, .int far] H Q E :=
  go_nth hx C f0 fb (fun e H' e' => k _ _ e' (by rw [e]; rfl)) fun t e v' H' e' hv => k _ _ e' (by rw [e]; exact hv)
/-- a slope as data -/
def sxD (t : Sx) : PyData := .tuple [.int t.lo, rateD t.hi, .int t.num, .int t.way]
theorem dq_rate (H : Hp) (r : Option Int) : Dq H (optV r) (rateD r) := by
  cases r with
  | none => exact .non
  | some r => exact .int r
theorem Tx.dq {H : Hp} {v : V} {t : Sx} (h : Tx H v t) : Dq H v (sxD t) := by
  obtain ⟨a, rfl, ha⟩ := h
  exact .tup (.inl ha) (.cons (.int _) (.cons (dq_rate H _) (.cons (.int _) (.cons (.int _) .nil))))
def oxD : Option Sx → PyData
  | none => .none
  | some t => sxD t
theorem Ox.dq {H : Hp} {v : V} {o : Option Sx} (h : Ox H v o) : Dq H v (oxD o) := by
  cases o with
  | none =>
    obtain rfl : v = .non := h
    exact .non
  | some t => exact Tx.dq h
theorem fine_sx {t : Sx} (h : Lit 590 t) : Fine 2404 1 (sxD t) := by
  have up : (2 : Nat) ^ 590 < 2 ^ 600 := Nat.pow_lt_pow_right (by decide) (by decide)
  have f1 : Fine 600 0 (.int t.lo) := Fine.int (Nat.lt_trans h.lo up)
  have f2 : Fine 600 0 (rateD t.hi) := by
    cases hh : t.hi with
    | none => exact Fine.none.mono (by decide) (by decide)
    | some g => exact Fine.int (Nat.lt_trans (h.hi g hh) up)
  have f3 : Fine 600 0 (.int t.num) := Fine.int (Nat.lt_trans h.num up)
  have f4 : Fine 600 0 (.int t.way) := Fine.int (by rcases h.way with w | w <;> rw [w] <;> decide +kernel)
  refine (Fine.tuple (w := 600) (k := 0) (l := [.int t.lo, rateD t.hi, .int t.num, .int t.way]) fun x hx => ?_).mono (Nat.le_of_ble_eq_true rfl) (Nat.le_refl _)
  simp only [List.mem_cons, List.not_mem_nil, or_false] at hx
  rcases hx with rfl | rfl | rfl | rfl
  · exact f1
  · exact f2
  · exact f3
  · exact f4
theorem fine_ox {o : Option Sx} (h : ∀ t, o = some t → Lit 590 t) : Fine 2404 1 (oxD o) := by
  cases o with
  | none => exact Fine.none.mono (by decide) (by decide)
  | some t => exact fine_sx (h t rfl)
theorem Rc.lit {dial i : Int} {ss : List Stg} {rate : Option Int} (C : Rc dial ss rate) (i0 : 0 ≤ i) (ib : i ≤ 2 ^ 200) : ∀ t, nthS rate (slopesOf dial ss) i = some t → Lit 590 t := fun t e => nth_lit C.near C.R.le C.rates i0 ib e
/-- receivers as data, their size -/
theorem fine_stg {s : Stg} (h : s.ok (10 ^ 39)) : Fine 1900 1 s.d := by
  have m1 : Fine 600 0 (.str "mix") := .str (by decide +kernel) (by decide +kernel)
  have m2 : Fine 600 0 (.str "dial") := .str (by decide +kernel) (by decide +kernel)
  have m3 : Fine 600 0 (.str "pass") := .str (by decide +kernel) (by decide +kernel)
  have e : (10 : Int) ^ 39 = 1000000000000000000000000000000000000000 := by decide +kernel
  have fi : ∀ i : Int, -(10 ^ 39) ≤ i → i ≤ 10 ^ 39 → Fine 600 0 (.int i) := fun i h1 h2 => Fine.int (by
    have : (1000000000000000000000000000000000000001 : Nat) < 2 ^ 600 := by decide +kernel
    generalize (2 : Nat) ^ 600 = B at *
    omega)
  cases s with
  | mix lo =>
    obtain ⟨o1, o2⟩ := h
    exact (Fine.tuple (l := [.str "mix", .int lo]) (two (l := []) m1 (fi lo (by omega) o2))).mono (Nat.le_of_ble_eq_true rfl) (by decide)
  | dial lo => exact (Fine.tuple (l := [.str "dial", .int lo]) (two (l := []) m2 (fi lo h.1 h.2))).mono (Nat.le_of_ble_eq_true rfl) (by decide)
  | pass lo hi =>
    obtain ⟨o1, o2, o3⟩ := h
    refine (Fine.tuple (w := 600) (k := 0) (l := [.str "pass", .int lo, .int hi]) fun x hx => ?_).mono (Nat.le_of_ble_eq_true rfl) (by decide)
    rcases List.mem_cons.mp hx with rfl | hx
    · exact m3
    · exact two (l := []) (fi lo (by omega) (by omega)) (fi hi (by omega) o3) x hx
theorem fine_rc {dial : Int} {ss : List Stg} {rate : Option Int} (C : Rc dial ss rate) : Fine 30500 3 (radD ss rate) := by
  have h1 : Fine 15208 2 (.list (ss.map Stg.d)) := by
    refine (Fine.list (w := 1900) (k := 1) (l := ss.map Stg.d) fun x hx => ?_).mono (by rw [List.length_map]; have := C.R.le; omega) (Nat.le_refl _)
    obtain ⟨s, hs', rfl⟩ := List.mem_map.mp hx
    exact fine_stg (C.R.ok s hs')
  have h2 : Fine 15208 2 (rateD rate) := by
    cases hr : rate with
    | none => exact Fine.none.mono (by decide) (by decide)
    | some r => exact (Fine.int (Nat.lt_of_le_of_lt (C.rates r hr).2 (Nat.pow_lt_pow_right (by decide) (by decide)))).mono (by decide) (by decide)
  exact (Fine.tuple (l := [.list (ss.map Stg.d), rateD rate]) (two (l := []) h1 h2)).mono (Nat.le_of_ble_eq_true rfl) (Nat.le_refl _)
def rev3 {α : Type} : List α → List α
  | [a, b, c] => [c, b, a]
  | l => l
end Kx

set_option Elab.async false
set_option linter.all false
set_option maxRecDepth 100000
set_option maxHeartbeats 4000000
namespace Kx
open PySem PySem.Spec PyProof.Rows L2 HX
/-! ### how large a slope's numbers are, by its index -/
theorem fold_bdK {s : Sx} {r k : Int} {K : Nat} (i : In (2 ^ 200) s) (kb : k.natAbs ≤ 2 ^ K) : (foldOf s r k).natAbs ≤ 7 * 2 ^ 200 + 100 + 2 ^ K := by
  have hn := i.num
  have hl := i.lo
  have f1 : (foldsA s r).1.natAbs ≤ 7 * 2 ^ 200 + 100 ∧ ∀ l, (foldsA s r).2 = some l → l.natAbs ≤ 7 * 2 ^ 200 + 100 := by
    unfold foldsA
    cases hh : s.hi with
    | none =>
      dsimp only
      have := ffold_bd r (s.num + 1)
      refine ⟨?_, fun l z => nomatch z⟩
      generalize (2 : Nat) ^ 200 = B at *
      omega
    | some g =>
      have hg := (i.hi g hh).1
      dsimp only
      have t1 := ffold_bd r (mnI s.num (endOf s g) + 1)
      have t2 := lfold_bd r (mxI s.num (endOf s g) - 1)
      have m0 : (endOf s g).natAbs ≤ 3 * 2 ^ 200 := by
        unfold endOf
        generalize (2 : Nat) ^ 200 = B at *
        rcases i.w with w | w <;> rw [w] <;> omega
      have m1 : (mnI s.num (endOf s g)).natAbs ≤ 3 * 2 ^ 200 := by
        generalize (2 : Nat) ^ 200 = B at *
        show (if endOf s g < s.num then endOf s g else s.num).natAbs ≤ _
        split <;> omega
      have m2 : (mxI s.num (endOf s g)).natAbs ≤ 3 * 2 ^ 200 := by
        generalize (2 : Nat) ^ 200 = B at *
        show (if endOf s g > s.num then endOf s g else s.num).natAbs ≤ _
        split <;> omega
      refine ⟨?_, fun l z => ?_⟩
      · generalize (2 : Nat) ^ 200 = B at *
        omega
      · cases z
        generalize (2 : Nat) ^ 200 = B at *
        omega
  unfold foldOf
  generalize (2 : Nat) ^ K = D at *
  generalize (2 : Nat) ^ 200 = B at *
  split
  · omega
  · cases hl2 : (foldsA s r).2 with
    | none => rw [Option.getD_none]; omega
    | some l => have := f1.2 l hl2; rw [Option.getD_some]; omega
theorem room_aux (B X C : Nat) (h : 1 ≤ C) : B ≤ (7 * B + 100 + X + 1) * C + C := by
  have := Nat.le_mul_of_pos_right (7 * B + 100 + X + 1) h
  generalize (7 * B + 100 + X + 1) * C = Z at *
  omega
theorem made_litK {s : Sx} {rate : Option Int} {k : Int} {K n : Nat} (i : In (2 ^ 200) s) (m : MadeOk s rate k) (hr : ∀ r, rate = some r → r.natAbs ≤ 2 ^ 150) (kb : k.natAbs ≤ 2 ^ K) (hn : 5 * ((7 * 2 ^ 200 + 100 + 2 ^ K + 1) * 2 ^ 150 + 2 ^ 150) < 2 ^ n) :
    Lit n (madeS s rate k) ∧ ∀ g, (madeS s rate k).hi = some g → g - (madeS s rate k).lo ≤ 2 ^ 201 := by
  have e0 : 2 ^ 200 ≤ (7 * 2 ^ 200 + 100 + 2 ^ K + 1) * 2 ^ 150 + 2 ^ 150 := room_aux _ _ _ (Nat.one_le_two_pow)
  have e200 : (2 : Nat) ^ 200 < 2 ^ n := Nat.lt_of_le_of_lt (Nat.le_trans e0 (Nat.le_mul_of_pos_left _ (by decide))) hn
  cases rate with
  | none =>
    refine ⟨⟨Nat.lt_of_le_of_lt i.lo e200, fun g e => Nat.lt_of_le_of_lt (i.hi g e).1 e200, Nat.lt_of_le_of_lt i.num e200, i.w⟩, fun g e => ?_⟩
    have h1 := (i.hi g e).1
    have h2 := i.lo
    have q : (2 : Int) ^ 201 = 2 * ((2 ^ 200 : Nat) : Int) := by decide +kernel
    rw [q]
    show g - s.lo ≤ _
    generalize (2 : Nat) ^ 200 = B at *
    omega
  | some r =>
    obtain ⟨p, hp⟩ := made_cut m
    have h2 := (m.r2 r rfl).1
    have fb := fold_bdK (r := r) i kb
    obtain ⟨l1, l2⟩ := low_bd (f := foldOf s r k) h2 fb (hr r rfl)
    have q := cut_in (i.mono e0) l1 l2 hp
    have et : madeS s (some r) k = ⟨p.lo, p.hi, sampI r p.num, p.way * wayF (foldOf s r k)⟩ := by unfold madeS; dsimp only; rw [hp]
    rw [et]
    refine ⟨⟨Nat.lt_of_le_of_lt q.lo hn, fun g e => Nat.lt_of_le_of_lt (q.hi g e).1 hn, ?_, ?_⟩, fun g e => ?_⟩
    · have hb := hr r rfl
      have e4 : (2 : Nat) ^ 150 < 2 ^ 200 := Nat.pow_lt_pow_right (by decide) (by decide)
      have a0 := Int.emod_nonneg p.num (show r ≠ 0 by omega)
      have a1 := Int.emod_lt_of_pos p.num (show 0 < r by omega)
      unfold sampI
      generalize (2 : Nat) ^ 150 = A at *
      generalize (2 : Nat) ^ 200 = B at *
      generalize (2 : Nat) ^ n = C at *
      dsimp only
      split <;> omega
    · rcases q.w with w | w <;> rcases wayF_one (foldOf s r k) with z | z <;> (unfold Wy; dsimp only; rw [w, z]; decide)
    · obtain ⟨q1, ⟨e', q2, q3⟩, q4, _⟩ := (cutN_all i.w (fun g e => (i.hi g e).2) (low_high (f := foldOf s r k) h2)).1 p hp
      dsimp only at e ⊢
      rw [e] at q2
      cases q2
      have i1 := ((q4 p.lo).mp ⟨Int.le_refl _, fun g' z => (by rw [e] at z; cases z; exact q3)⟩).2
      have i2 := ((q4 g).mp ⟨q3, fun g' z => (by rw [e] at z; cases z; exact Int.le_refl _)⟩).2
      have hd : highF r (foldOf s r k) - lowF r (foldOf s r k) = r / 2 := by
        unfold highF lowF
        split <;> omega
      have hb := hr r rfl
      have e4 : (2 : Int) ^ 201 = 2 * ((2 ^ 200 : Nat) : Int) := by decide +kernel
      have e5 : (2 : Nat) ^ 150 < 2 ^ 200 := Nat.pow_lt_pow_right (by decide) (by decide)
      rw [e4]
      generalize (2 : Nat) ^ 150 = A at *
      generalize (2 : Nat) ^ 200 = B at *
      unfold valS at i1 i2
      rcases i.w with w | w <;> rw [w] at i1 i2 <;> omega
theorem Rc.litK {dial i : Int} {ss : List Stg} {rate : Option Int} {K n : Nat} (C : Rc dial ss rate) (i0 : 0 ≤ i) (ib : i.natAbs ≤ 2 ^ K) (hK : K ≤ 2500) (hn : 5 * ((7 * 2 ^ 200 + 100 + 2 ^ K + 1) * 2 ^ 150 + 2 ^ 150) < 2 ^ n) {t : Sx} (e : nthS rate (slopesOf dial ss) i = some t) :
    Lit n t ∧ ∀ g, t.hi = some g → g - t.lo ≤ 2 ^ 201 := by
  have ok := slopes_ok C.near C.R.le (by decide +kernel)
  obtain ⟨s, hs, k, hk, m, e⟩ := nth_mem C.sms _ i t (fun s hs => (ok s hs).1) i0 (Nat.le_trans ib (Nat.pow_le_pow_right (by decide) hK)) e
  have hin := strAt_in C.near C.R.le s (List.mem_filter.mp hs).1
  rw [e]
  exact made_litK (hin.mono (by decide +kernel)) m (fun r hr => (C.rates r hr).2) (Nat.le_trans (show k.natAbs ≤ i.natAbs by have := m.k0; omega) ib) hn
theorem Rc.passOk {dial : Int} {ss : List Stg} {rate : Option Int} (C : Rc dial ss rate) : PassOk ss := fun s hs a b e => by
  have := C.R.ok s hs
  rw [e] at this
  exact this.2.1
end Kx

set_option Elab.async false
set_option linter.all false
set_option maxRecDepth 100000
set_option maxHeartbeats 4000000
/-! sorted of tuples whose first items are ints, all distinct -/
namespace XO
open PySem PyProof.Rows Srt SrtO
section
variable {prog : Program} {w : World} {A : Around} {s : Shared}
def Flat (_ : Value) : Prop := True
/-- v is a tuple: the int x, then ints and None -/
def IsF (h : Heap) (v : Value) (x : Int) : Prop := ∃ (a : Addr) (o : Obj) (items : Array Value) (n : Nat) (t : Tok) (r : List Value), v = .ref a ∧ h.get? a = some o ∧ o.cls = .type "tuple" ∧ o.data = .seq items n ∧ items.toList = .int x t :: r ∧ ∀ u ∈ r, Flat u
theorem IsF.keeps {h h' : Heap} {v : Value} {x : Int} (p : IsF h v x) (k : ∀ b o, h.get? b = some o → o.cls = .type "tuple" → h'.get? b = some o) : IsF h' v x := by
  obtain ⟨a, o, items, n, t, r, e, ho, hc, hd, hl, hf⟩ := p
  exact ⟨a, o, items, n, t, r, e, k _ _ ho hc, hc, hd, hl, hf⟩
theorem swo_key (k : Value → Int) : Swo fun v u => decide (k v < k u) := by
  refine ⟨fun x y h => ?_, fun x y z h1 h2 => ?_⟩
  · have a := of_decide_eq_true h
    exact decide_eq_false (by omega)
  · have a := of_decide_eq_false h1
    have b := of_decide_eq_false h2
    exact decide_eq_false (by omega)
theorem self_lex {Q : Bool → Shared → Prop} (h : Q false s) : ∀ (l : List Value) (i : Nat), (∀ u ∈ l, Flat u) → PySem.W.KatLex prog w A true false Q (l.zip l) i s
  | [], i, _ => PySem.W.kat_nil h
  | u :: l, i, hf => by
    rw [List.zip_cons_cons]
    have rest := self_lex h l (i + 1) fun x hx => hf x (List.mem_cons_of_mem _ hx)
    refine PySem.W.kat_cons ?_
    exact SeqAt.EqAt.same u prog w _ _ (PySem.W.kat_yes rest)
theorem first_cmp {vs : List Value} {k : Value → Int} (hp : ∀ v ∈ vs, IsF s.heap v (k v)) (inj : ∀ v ∈ vs, ∀ u ∈ vs, k v = k u → v = u) : Cmp prog w A s (tuples' true) (fun p => p.1 ∈ vs) (lt2 fun v u => decide (k v < k u)) := by
  intro p q hm hm'
  have h1 := hp _ hm
  have h2 := hp _ hm'
  have i12 := inj _ hm _ hm'
  show wpAny (model prog w) A (keyLt' (tuples' true) p.1 q.1) (fun r s' => s' = s ∧ r = decide (k p.1 < k q.1)) (fun _ _ => False) s
  generalize p.1 = v at *
  generalize q.1 = u at *
  generalize k v = x at h1 i12 ⊢
  generalize k u = x' at h2 i12 ⊢
  obtain ⟨a, o, items, n, t, r, e, ho, hc, hd, hl, hf⟩ := h1
  obtain ⟨a', o', items', n', t', r', e', ho', hc', hd', hl', hf'⟩ := h2
  rw [e, e']
  refine PySem.W.kat_lt ho hd ho' hd' ?_
  by_cases ex : x = x'
  · have ev := i12 ex
    rw [e, e'] at ev
    cases ev
    rw [ho] at ho'
    cases ho'
    rw [hd] at hd'
    cases hd'
    rw [decide_eq_false (Nat.lt_irrefl _)]
    exact self_lex ⟨rfl, (decide_eq_false (by omega)).symm⟩ _ _ fun z hz => trivial
  · rw [hl, hl', List.zip_cons_cons]
    refine PySem.W.kat_cons (SeqAt.EqAt.int_int x t x' t' prog w _ _ ?_)
    rw [show (x == x') = false by simpa using ex]
    exact PySem.W.kat_no (oneLt_int ⟨rfl, rfl⟩)
theorem firsts_of {h : Heap} : ∀ {vs : List Value}, (∀ v ∈ vs, ∃ x, IsF h v x) → ∃ fs : List Value, PySem.W.KatTups h vs fs ∧ fs.length = vs.length ∧ ∀ f ∈ fs, ∃ x t, f = Value.int x t
  | [], _ => ⟨[], PySem.W.KatTups.nil, rfl, fun _ hm => by simp at hm⟩
  | v :: vs, hp => by
    obtain ⟨fs, h1, h2, h3⟩ := firsts_of (vs := vs) fun v' hm => hp v' (List.mem_cons_of_mem _ hm)
    obtain ⟨x, a, o, items, n, t, r, e, ho, hc, hd, hl, hf⟩ := hp v (List.mem_cons_self ..)
    subst e
    have h0 : items[0]? = some (.int x t) := by
      rw [← Array.getElem?_toList, hl]
      rfl
    refine ⟨.int x t :: fs, PySem.W.KatTups.cons ho hc hd h0 h1, by rw [List.length_cons, List.length_cons, h2], fun f hm => ?_⟩
    rcases List.mem_cons.mp hm with rfl | hm
    · exact ⟨x, t, rfl⟩
    · exact h3 f hm
theorem first_sortableO {a : Addr} {vs : List Value} {k : Value → Int} (h0 : 0 < vs.length) (hp : ∀ v ∈ vs, IsF s.heap v (k v)) (inj : ∀ v ∈ vs, ∀ u ∈ vs, k v = k u → v = u) (ha : ∀ o, s.heap.get? a = some o → o.cls ≠ .type "tuple") :
    SortableO prog w A s a vs fun v u => decide (k v < k u) := by
  intro h' keep
  have hp' : ∀ v ∈ vs, IsF h' v (k v) := fun v hm => (hp v hm).keeps fun b o e c => keep b o (fun z => by subst z; exact ha o e c) e
  obtain ⟨fs, h1, h2, h3⟩ := firsts_of fun v hm => ⟨_, hp' v hm⟩
  refine ⟨tuples' true, fun Q E hq => ?_, first_cmp hp' inj⟩
  refine PySem.W.kat_kind (T := .type "int") h1 (by omega) (fun f hm => ?_) (by rfl) ?_
  · obtain ⟨x, t, rfl⟩ := h3 f hm
    exact PySem.W.Looks.now
  · have e : (Value.type "int" != Value.type "tuple") = true := by first | decide +kernel | rfl | decide
    rw [e]
    exact hq
theorem sorted_firstO {l : Addr} {vs : List Value} {k : Value → Int} {Q : Value → Shared → Prop} {A : Around} (hl : s.heap.IsList l vs.toArray) (hz : vs.length ≤ sizeLine) (hp : ∀ v ∈ vs, IsF s.heap v (k v)) (inj : ∀ v ∈ vs, ∀ u ∈ vs, k v = k u → v = u)
    {E : Value → Shared → Prop}
    (h : ∀ (h' : Heap) (d : Addr) (out : List Value), Srtd (fun v u => decide (k v < k u)) out → Stb (fun v u => decide (k v < k u)) out vs → (∀ b o, s.heap.get? b = some o → h'.get? b = some o) → s.heap.objs.size ≤ d → (∃ n, h'.get? d = some (seqObj "list" out.toArray n)) → Q (.ref d) { s with heap := h' }) :
    wpAny (model prog w) A (call (.builtin "sorted") [.ref l]) Q E s := by
  refine sorted_ord (swo_key k) hl hz (fun h2 h₁ a ha kk => ?_) fun out hs hb => ?_
  · refine first_sortableO (s := { s with heap := h₁ }) (by omega) (fun v hm => (hp v hm).keeps fun b o e _ => (kk b o e).2) inj fun o e => ?_
    have e' : some o = some (seqObj "list" vs.toArray 0) := e.symm.trans ha
    cases e'
    intro c
    exact absurd (Value.type.inj c) (by decide)
  · exact h _ _ out hs hb (fun b o e => sortedAll_old e) (Nat.le_succ _) (sortedAll_at s.heap vs out.toArray)
end
end XO
namespace Kx
open PySem PySem.Spec PyProof.Rows L2 HX
theorem Tx.uniq {H : Hp} {v : V} {t u : Sx} (h : Tx H v t) (k : Tx H v u) : t = u := by
  obtain ⟨a, rfl, ha⟩ := h
  obtain ⟨b, e, hb⟩ := k
  cases e
  rw [ha] at hb
  obtain ⟨t1, t2, t3, t4⟩ := t
  obtain ⟨u1, u2, u3, u4⟩ := u
  have e := Option.some.inj hb
  unfold Sx.v at e
  injection e with e
  injection e with e1 e
  injection e with e2 e
  injection e with e3 e
  injection e with e4 _
  dsimp only at e1 e2 e3 e4
  cases e1
  cases e3
  cases e4
  congr 1
  cases t2 <;> cases u2 <;> first | rfl | (cases e2; rfl) | cases e2
open Classical in
noncomputable def tO (H : Hp) (v : V) : Sx := if h : ∃ t, Tx H v t then h.choose else ⟨0, none, 0, 1⟩
theorem tO_eq {H : Hp} {v : V} {t : Sx} (h : Tx H v t) : tO H v = t := by
  unfold tO
  rw [dif_pos ⟨t, h⟩]
  exact Tx.uniq (Exists.choose_spec (⟨t, h⟩ : ∃ t, Tx H v t)) h
theorem Txs.map_tO {H : Hp} : ∀ {xs : List V} {L : List Sx}, Txs H xs L → L = xs.map (tO H)
  | [], L, h => by
    have := h.len
    exact List.length_eq_zero_iff.mp this.symm
  | v :: xs, [], h => by have := h.len; simp at this
  | v :: xs, t :: L, h => by
    obtain ⟨t', e, h1⟩ := h.get 0 v rfl
    obtain rfl : t = t' := by simpa using e
    have rest : Txs H xs L := ⟨by have := h.len; simpa using this, fun i u hu => by
      obtain ⟨t', e, h2⟩ := h.get (i + 1) u (by simpa using hu)
      exact ⟨t', by simpa using e, h2⟩⟩
    rw [List.map_cons, tO_eq h1, ← Txs.map_tO rest]
theorem txs_of {H : Hp} : ∀ {ys : List V}, (∀ y ∈ ys, ∃ t, Tx H y t) → Txs H ys (ys.map (tO H)) := fun {ys} h => ⟨by simp, fun i v hv => by
  obtain ⟨t, ht⟩ := h v (List.mem_of_getElem? hv)
  exact ⟨t, by rw [List.getElem?_map, hv]; exact congrArg some (tO_eq ht), ht⟩⟩
/-- sorted(xs), xs a list of stretches whose least signals are all distinct -/
def rSortedT (K : PySem.W.Frag) : List V → Hp → VK → Prop := fun vs H Q => ∃ (a : Addr) (xs : List V) (L : List Sx), vs = [V.ref a] ∧ SqL K H a xs ∧ Txs H xs L ∧ L.Pairwise (fun s t => s.lo ≠ t.lo) ∧
  ∀ ys M p, Txs H ys M → M.Perm L → M.Pairwise (fun s t => s.lo < t.lo) → H p = none → Q (.ref p) (upd H p (.lst ys))
theorem pw_of_perm {L M : List Sx} (h : M.Perm L) (d : L.Pairwise (fun s t => s.lo ≠ t.lo)) (o : M.Pairwise (fun s t => ¬ t.lo < s.lo)) : M.Pairwise (fun s t => s.lo < t.lo) := by
  have d' : M.Pairwise (fun s t => s.lo ≠ t.lo) := h.symm.pairwise d fun {x y} e z => e z.symm
  exact (o.and d').imp fun {x y} ⟨a, b⟩ => by omega
section
variable {X : Cx}
theorem cr_sortedT : CallR X (.builtin "sorted") (rSortedT X.K) := by
  intro pins s σ H vs us Q I r h
  obtain ⟨a, xs, L, rfl, hs, hT, dis, q⟩ := h
  obtain ⟨its, rv, hl, hz⟩ := I.list hs
  obtain ⟨u, rfl, ru⟩ := vals1 r
  obtain rfl : u = Value.ref a := ru
  have hx : ∀ x ∈ xs, ∃ t, Tx H x t := fun x m => by
    obtain ⟨i, hi⟩ := List.mem_iff_getElem?.mp m
    obtain ⟨t, _, ht⟩ := hT.get i x hi
    exact ⟨t, ht⟩
  obtain ⟨e1, e2⟩ := refs_back rv fun x m => by
    obtain ⟨t, b, e, _⟩ := hx x m
    exact ⟨b, e⟩
  have hL := hT.map_tO
  have inj : ∀ v ∈ its, ∀ u ∈ its, (tO H (backV v)).lo = (tO H (backV u)).lo → v = u := by
    rw [hL, e1, List.map_map] at dis
    have d2 : its.Pairwise fun v u => (tO H (backV v)).lo ≠ (tO H (backV u)).lo := (List.pairwise_map (f := tO H ∘ backV)).mp dis
    intro v hv u hu e
    rcases pw_mem d2 hv hu with h | h | h
    · exact h
    · exact absurd e h
    · exact absurd e.symm h
  refine XO.sorted_firstO (k := fun u => (tO H (backV u)).lo) hl.isList (by rw [← rv.length]; exact hz) (fun v hv => ?_) inj fun h' d out h1 h2 kp hd hn => ?_
  · obtain ⟨t, rfl⟩ := e2 v hv
    have hm : V.ref t ∈ xs := by rw [e1]; exact List.mem_map.mpr ⟨_, hv, rfl⟩
    obtain ⟨sx, b, e, ht⟩ := hx _ hm
    cases e
    have hk : tO H (backV (Value.ref t)) = sx := tO_eq ⟨t, rfl, ht⟩
    rw [hk]
    obtain ⟨_, its2, r2, o, ho, hc, n, hd⟩ := I.hok _ _ ht
    obtain ⟨w1, w2, w3, w4, rfl, r1, r2, r3, r4⟩ : ∃ w1 w2 w3 w4, its2 = [w1, w2, w3, w4] ∧ RelV (.int sx.lo) w1 ∧ RelV (optV sx.hi) w2 ∧ RelV (.int sx.num) w3 ∧ RelV (.int sx.way) w4 := by
      unfold Sx.v at r2
      cases r2 with
      | cons q1 r2 => cases r2 with
        | cons q2 r2 => cases r2 with
          | cons q3 r2 => cases r2 with
            | cons q4 r2 => cases r2; exact ⟨_, _, _, _, rfl, q1, q2, q3, q4⟩
    obtain ⟨t1, rfl⟩ := r1
    obtain ⟨t3, rfl⟩ := r3
    obtain ⟨t4, rfl⟩ := r4
    refine ⟨t, o, _, n, t1, [w2, .int sx.num t3, .int sx.way t4], rfl, ho, hc, hd, by simp, fun u hu => ?_⟩
    exact trivial
  · have h3 : ∀ u ∈ out, ∃ a, u = Value.ref a := fun u hu => e2 u (h2.perm.mem_iff.mp hu)
    obtain ⟨n, hn⟩ := hn
    have pm : (out.map backV).Perm xs := by
      rw [e1]
      exact h2.perm.map backV
    have hy : ∀ y ∈ out.map backV, ∃ t, Tx H y t := fun y hy => hx y (pm.mem_iff.mp hy)
    have pm2 : ((out.map backV).map (tO H)).Perm L := by
      rw [hL]
      exact pm.map _
    have so : ((out.map backV).map (tO H)).Pairwise (fun s t => ¬ t.lo < s.lo) := by
      rw [List.map_map]
      refine List.pairwise_map.mpr (h1.imp fun {x y} e => ?_)
      exact of_decide_eq_false e
    refine ⟨.ref d, upd H d (.lst (out.map backV)), I.laid (t' := s.toks) kp hd ⟨?_, out, n, vals_back h3, hn⟩, rfl, q _ _ d (txs_of hy) pm2 (pw_of_perm pm2 dis so) (I.hok.fresh hd)⟩
    rw [pm.length_eq]
    exact hz
end
/-- two strictly ascending rearrangements of each other are one -/
theorem asc_uniq : ∀ {L M : List Sx}, L.Pairwise (fun s t => s.lo < t.lo) → M.Pairwise (fun s t => s.lo < t.lo) → M.Perm L → M = L
  | [], M, _, _, h => List.perm_nil.mp h
  | t :: L, [], _, _, h => absurd h.length_eq (by simp)
  | t :: L, u :: M, hl, hm, h => by
    obtain ⟨l1, l2⟩ := List.pairwise_cons.mp hl
    obtain ⟨m1, m2⟩ := List.pairwise_cons.mp hm
    have e : u = t := by
      have a := h.mem_iff.mp (List.mem_cons_self (a := u))
      have b := h.mem_iff.mpr (List.mem_cons_self (a := t))
      rcases List.mem_cons.mp a with a | a
      · exact a
      · rcases List.mem_cons.mp b with b | b
        · exact b.symm
        · have := l1 u a
          have := m1 t b
          omega
    subst e
    rw [asc_uniq l2 m2 ((List.perm_cons u).mp h)]
end Kx

set_option Elab.async false
set_option linter.all false
set_option maxRecDepth 100000
set_option maxHeartbeats 4000000
namespace Kx
open PySem PySem.Spec PyProof.Rows L2 HX
/-! ### slopes found signal by signal -/
structure RunAt (f : Int → Option Int) (k : Int) (L : List Sx) : Prop where
  sl : ∀ t ∈ L, IsSl f t ∧ t.lo < k
  asc : L.Pairwise (fun s t => s.lo < t.lo)
  all : ∀ t, IsSl f t → t.lo < k → t ∈ L
def trunc (k : Int) (t : Sx) : Sx := ⟨t.lo, some (match t.hi with | none => k | some g => if g < k then g else k), t.num, t.way⟩
theorem trunc_same {k : Int} {t : Sx} {g : Int} (h : t.hi = some g) (l : g ≤ k) : trunc k t = t := by
  obtain ⟨a, b, c, d⟩ := t
  cases h
  unfold trunc
  dsimp only
  congr 2
  split <;> omega
theorem trunc_over {k : Int} {t : Sx} (h : ∀ g, t.hi = some g → k ≤ g) : trunc k t = ⟨t.lo, some k, t.num, t.way⟩ := by
  unfold trunc
  cases hh : t.hi with
  | none => rfl
  | some g =>
    have := h g hh
    dsimp only
    rw [if_neg (by omega)]
section
variable {f : Int → Option Int} {k : Int} {L : List Sx}
theorem run_zero : RunAt f 0 [] := ⟨(fun _ h => nomatch h), List.Pairwise.nil, fun t h l => absurd l (by have := h.lo; omega)⟩
theorem wy_ne {t : Sx} (h : Wy t) : t.way ≠ 0 := by rcases h with w | w <;> rw [w] <;> decide
theorem run_still (k0 : 0 ≤ k) (R : RunAt f k L) (h : stepF f k = 0) : RunAt f (k + 1) L ∧ L.map (trunc (k + 1)) = L.map (trunc k) := by
  refine ⟨⟨fun t ht => ⟨(R.sl t ht).1, by have := (R.sl t ht).2; omega⟩, R.asc, fun t ht l => ?_⟩, List.map_congr_left fun t ht => ?_⟩
  · by_cases e : t.lo = k
    · have := ht.step ht.first.1 ht.first.2
      rw [e, h] at this
      exact absurd this.symm (wy_ne ht.w)
    · exact R.all t ht (by omega)
  · obtain ⟨I, l⟩ := R.sl t ht
    have no : ¬ inS t (k + 1) := fun i => by
      have := I.step (x := k) ⟨by omega, fun g e => by have := i.2 g e; omega⟩ i
      rw [h] at this
      exact wy_ne I.w this.symm
    cases hh : t.hi with
    | none => exact absurd ⟨by omega, fun g e => by rw [hh] at e; cases e⟩ no
    | some g =>
      have gk : g ≤ k := by
        by_cases z : g ≤ k
        · exact z
        · exact absurd ⟨by omega, fun g' e => by rw [hh] at e; cases e; omega⟩ no
      rw [trunc_same hh gk, trunc_same hh (by omega)]
/-- a slope with k and the signal behind it goes on, or begins -/
theorem run_on (k0 : 0 ≤ k) (R : RunAt f k L) {t : Sx} (T : IsSl f t) (i1 : inS t k) (i2 : inS t (k + 1)) (h : stepF f (k - 1) = t.way) :
    ∃ L0, L = L0 ++ [t] ∧ RunAt f (k + 1) L ∧ t.lo < k ∧ L.map (trunc (k + 1)) = L0.map (trunc k) ++ [⟨t.lo, some (k + 1), t.num, t.way⟩] := by
  have tk : t.lo < k := by
    by_cases e : t.lo = k
    · have := T.left
      rw [e] at this
      exact absurd h this
    · have := i1.1; omega
  have tm := R.all t T tk
  have others : ∀ u ∈ L, u ≠ t → u.lo < t.lo ∧ ∃ g, u.hi = some g ∧ g ≤ t.lo := fun u hu ne => by
    obtain ⟨U, _⟩ := R.sl u hu
    rcases pw_mem R.asc hu tm with e | l | l
    · exact absurd e ne
    · exact ⟨l, U.sep T l⟩
    · obtain ⟨g, hg, gl⟩ := T.sep U l
      have := i2.2 g hg
      have := (R.sl u hu).2
      omega
  obtain ⟨A, B, rfl⟩ := List.append_of_mem tm
  have hB : B = [] := by
    cases B with
    | nil => rfl
    | cons u B =>
      have h1 := (List.pairwise_append.mp R.asc).2.1
      have h2 := (List.pairwise_cons.mp h1).1 u List.mem_cons_self
      have := (others u (by simp) (fun e => by rw [e] at h2; omega)).1
      omega
  subst hB
  have ne : ∀ u ∈ A, u ≠ t := fun u hu e => by
    have := (List.pairwise_append.mp R.asc).2.2 u hu t List.mem_cons_self
    rw [e] at this
    omega
  refine ⟨A, rfl, ⟨fun u hu => ⟨(R.sl u hu).1, by have := (R.sl u hu).2; omega⟩, R.asc, fun u U l => ?_⟩, tk, ?_⟩
  · by_cases e : u.lo = k
    · have := T.uniq2 U i1 i2 (by rw [← e]; exact U.first.1) (by rw [← e]; exact U.first.2)
      rw [this] at tk
      omega
    · exact R.all u U (by omega)
  · rw [List.map_append, List.map_cons, List.map_nil]
    congr 1
    · refine List.map_congr_left fun u hu => ?_
      obtain ⟨_, g, hg, gl⟩ := others u (by simp [hu]) (ne u hu)
      rw [trunc_same hg (by omega), trunc_same hg (by omega)]
    · rw [trunc_over fun g e => i2.2 g e]
theorem run_new (k0 : 0 ≤ k) (R : RunAt f k L) {t : Sx} (T : IsSl f t) (i1 : inS t k) (i2 : inS t (k + 1)) (h : stepF f (k - 1) ≠ t.way) :
    t.lo = k ∧ RunAt f (k + 1) (L ++ [t]) ∧ (L ++ [t]).map (trunc (k + 1)) = L.map (trunc k) ++ [⟨k, some (k + 1), t.num, t.way⟩] := by
  have tk : t.lo = k := by
    by_cases e : t.lo = k
    · exact e
    · have := T.step (x := k - 1) ⟨by have := i1.1; omega, fun g e => by have := i1.2 g e; omega⟩ (by rw [Int.sub_add_cancel]; exact i1)
      exact absurd this h
  have before : ∀ u ∈ L, ∃ g, u.hi = some g ∧ g ≤ k := fun u hu => by
    obtain ⟨U, l⟩ := R.sl u hu
    obtain ⟨g, hg, gl⟩ := U.sep T (by omega)
    exact ⟨g, hg, by omega⟩
  refine ⟨tk, ⟨fun u hu => ?_, List.pairwise_append.mpr ⟨R.asc, List.pairwise_singleton _ _, fun a ha b hb => ?_⟩, fun u U l => ?_⟩, ?_⟩
  · rcases List.mem_append.mp hu with hu | hu
    · exact ⟨(R.sl u hu).1, by have := (R.sl u hu).2; omega⟩
    · rw [List.mem_singleton.mp hu]
      exact ⟨T, by omega⟩
  · rw [List.mem_singleton.mp hb]
    have := (R.sl a ha).2
    omega
  · by_cases e : u.lo = k
    · have := T.uniq U (by omega)
      rw [this]
      simp
    · exact List.mem_append_left _ (R.all u U (by omega))
  · rw [List.map_append, List.map_cons, List.map_nil]
    congr 1
    · refine List.map_congr_left fun u hu => ?_
      obtain ⟨g, hg, gl⟩ := before u hu
      rw [trunc_same hg (by omega), trunc_same hg (by omega)]
    · rw [trunc_over fun g e => i2.2 g e, tk]
end
/-- two strictly ascending lists with the same members are one -/
theorem asc_ext : ∀ {L M : List Sx}, L.Pairwise (fun s t => s.lo < t.lo) → M.Pairwise (fun s t => s.lo < t.lo) → (∀ t, t ∈ L ↔ t ∈ M) → L = M
  | [], [], _, _, _ => rfl
  | [], u :: M, _, _, h => absurd ((h u).mpr List.mem_cons_self) (by simp)
  | t :: L, [], _, _, h => absurd ((h t).mp List.mem_cons_self) (by simp)
  | t :: L, u :: M, hl, hm, h => by
    obtain ⟨l1, l2⟩ := List.pairwise_cons.mp hl
    obtain ⟨m1, m2⟩ := List.pairwise_cons.mp hm
    have e : t = u := by
      have a := (h t).mp List.mem_cons_self
      have b := (h u).mpr List.mem_cons_self
      rcases List.mem_cons.mp a with a | a
      · exact a
      · rcases List.mem_cons.mp b with b | b
        · exact b.symm
        · have := m1 t a
          have := l1 u b
          omega
    subst e
    congr 1
    refine asc_ext l2 m2 fun x => ?_
    have hx := h x
    rw [List.mem_cons, List.mem_cons] at hx
    refine ⟨fun q => ?_, fun q => ?_⟩
    · rcases hx.mp (.inr q) with z | z
      · have := l1 x q
        rw [z] at this
        omega
      · exact z
    · rcases hx.mpr (.inr q) with z | z
      · have := m1 x q
        rw [z] at this
        omega
      · exact z
/-! ### where nothing turns any more -/
structure FinE (E : Int) (t : Sx) : Prop where
  lo : t.lo ≤ E
  hi : ∀ g, t.hi = some g → g ≤ E
  op : t.hi = none → t.way = 1 ∧ t.lo - t.num ≤ E
theorem fin_mix {E e c : Int} {s t : Sx} (k : FinE E s) (hc : c ≤ e) (e0 : 0 ≤ e) (h : t ∈ mixS c s) : FinE (E + e) t := by
  have hl := k.lo
  unfold mixS at h
  split at h
  · rw [List.mem_singleton.mp h]
    refine ⟨by dsimp only; omega, fun g z => by have := k.hi g z; omega, fun z => ⟨rfl, ?_⟩⟩
    have := (k.op z).2
    dsimp only
    unfold absI
    split <;> omega
  · rename_i h0
    split at h
    · rename_i g hg
      have hb := k.hi g hg
      split at h
      · rw [List.mem_singleton.mp h]
        exact ⟨by dsimp only; omega, fun g' z => (by cases z; omega), fun z => nomatch z⟩
      · rcases List.mem_cons.mp h with rfl | h
        · exact ⟨by dsimp only; omega, fun g' z => (by cases z; omega), fun z => nomatch z⟩
        · rw [List.mem_singleton.mp h]
          exact ⟨by dsimp only; omega, fun g' z => (by cases z; omega), fun z => nomatch z⟩
    · rename_i hg
      obtain ⟨w, o⟩ := k.op hg
      have tn : sigOf s c ≤ E + e := by unfold sigOf; rw [w]; omega
      rcases List.mem_cons.mp h with rfl | h
      · exact ⟨by dsimp only; omega, fun g' z => (by cases z; exact tn), fun z => nomatch z⟩
      · rw [List.mem_singleton.mp h]
        exact ⟨tn, (fun g' z => nomatch z), fun _ => ⟨rfl, by dsimp only; omega⟩⟩
theorem fin_cut {E low high : Int} {s p : Sx} (k : FinE E s) (w : Wy s) (o : ∀ g, s.hi = some g → s.lo ≤ g) (le : low ≤ high) (h0 : 0 ≤ high) (h : cutN s low high = some p) : FinE (E + high) p := by
  obtain ⟨q1, ⟨e, q2, q3⟩, q4, _⟩ := (cutN_all w o le).1 p h
  have ie := (q4 e).mp ⟨q3, fun g z => (by rw [q2] at z; cases z; exact Int.le_refl _)⟩
  have eE : e ≤ E + high := by
    cases hh : s.hi with
    | none =>
      obtain ⟨w1, o1⟩ := k.op hh
      have := ie.2.2
      unfold valS at this
      rw [w1] at this
      omega
    | some g =>
      have := ie.1.2 g hh
      have := k.hi g hh
      omega
  exact ⟨by omega, fun g z => (by rw [q2] at z; cases z; exact eE), fun z => by rw [q2] at z; cases z⟩
def lastN : Stg → Int
  | .mix lo => lo
  | .dial a => a
  | .pass _ b => b
def ab (i : Int) : Int := if i < 0 then -i else i
def sumL (ss : List Stg) : Int := (ss.map fun s => ab (lastN s)).foldr (· + ·) 0
theorem ab_nn (i : Int) : 0 ≤ ab i ∧ i ≤ ab i := by unfold ab; split <;> omega
theorem sumL_nn : ∀ ss : List Stg, 0 ≤ sumL ss
  | [] => Int.le_refl _
  | s :: ss => by
    have h := sumL_nn ss
    have := (ab_nn (lastN s)).1
    show 0 ≤ ab (lastN s) + sumL ss
    omega
theorem str_fin {dial : Int} : ∀ (ss : List Stg) (f : Int → Option Int) (acc : List Sx) (E : Int), PassOk ss → (∀ s ∈ ss, ∀ a b, s = .pass a b → 0 ≤ b) → Cov f acc → 0 ≤ E → (∀ t ∈ acc, FinE E t) → ∀ t ∈ ss.foldl (strStep dial) acc, FinE (E + sumL ss + dials ss * ab dial) t
  | [], f, acc, E, _, _, _, _, h => fun t ht => by
    have := h t ht
    rw [show E + sumL [] + ((dials [] : Nat) : Int) * ab dial = E from by simp [sumL, dials]]
    exact this
  | s :: ss, f, acc, E, P, P0, C, E0, h => fun t ht => by
    rw [List.foldl_cons] at ht
    have P' := fun x hx => P x (List.mem_cons_of_mem s hx)
    have P0' := fun x hx => P0 x (List.mem_cons_of_mem s hx)
    have C' := cov_step (dial := dial) (P s List.mem_cons_self) C
    have a0 := (ab_nn dial).1
    have hd : ((dials (s :: ss) : Nat) : Int) = (if s.isDial then 1 else 0) + ((dials ss : Nat) : Int) := by
      unfold dials
      rw [List.filter_cons]
      cases s.isDial <;> simp [Int.add_comm]
    have hs : sumL (s :: ss) = ab (lastN s) + sumL ss := rfl
    rw [hd, hs]
    cases s with
    | mix lo =>
      have := str_fin ss _ _ (E + ab lo) P' P0' C' (by have := (ab_nn lo).1; omega) (fun u hu => by
        obtain ⟨s', h1, h2⟩ := List.mem_flatMap.mp hu
        exact fin_mix (h s' h1) (ab_nn lo).2 (ab_nn lo).1 h2) t ht
      have eq : E + (ab (lastN (.mix lo)) + sumL ss) + ((if Stg.isDial (.mix lo) then 1 else 0) + ((dials ss : Nat) : Int)) * ab dial = E + ab lo + sumL ss + ((dials ss : Nat) : Int) * ab dial := by
        show E + (ab lo + sumL ss) + (0 + ((dials ss : Nat) : Int)) * ab dial = _
        rw [Int.zero_add]
        omega
      rw [eq]
      exact this
    | dial a =>
      have := str_fin ss _ _ (E + (ab a + ab dial)) P' P0' C' (by have := (ab_nn a).1; omega) (fun u hu => by
        obtain ⟨s', h1, h2⟩ := List.mem_flatMap.mp hu
        exact fin_mix (h s' h1) (by have := (ab_nn a).2; have := (ab_nn dial).2; omega) (by have := (ab_nn a).1; omega) h2) t ht
      have eq : E + (ab (lastN (.dial a)) + sumL ss) + ((if Stg.isDial (.dial a) then 1 else 0) + ((dials ss : Nat) : Int)) * ab dial = E + (ab a + ab dial) + sumL ss + ((dials ss : Nat) : Int) * ab dial := by
        show E + (ab a + sumL ss) + (1 + ((dials ss : Nat) : Int)) * ab dial = _
        rw [Int.add_mul, Int.one_mul]
        omega
      rw [eq]
      exact this
    | pass a b =>
      have le := P _ List.mem_cons_self a b rfl
      have b0 := P0 _ List.mem_cons_self a b rfl
      have hb : ab b = b := by unfold ab; split <;> omega
      have := str_fin ss _ _ (E + b) P' P0' C' (by omega) (fun u hu => by
        rcases (pass_mem (low := a) (high := b) acc []).2.1 u hu with z | ⟨s', h1, h2⟩
        · cases z
        · exact fin_cut (h s' h1) (C.w s' h1) (C.ord s' h1) le b0 h2) t ht
      have eq : E + (ab (lastN (.pass a b)) + sumL ss) + ((if Stg.isDial (.pass a b) then 1 else 0) + ((dials ss : Nat) : Int)) * ab dial = E + b + sumL ss + ((dials ss : Nat) : Int) * ab dial := by
        show E + (ab b + sumL ss) + (0 + ((dials ss : Nat) : Int)) * ab dial = _
        rw [Int.zero_add, hb]
        omega
      rw [eq]
      exact this
/-- all slopes of a receiver without its sampler end, or go on for ever, ahead of the law's end -/
theorem slopes_fin {dial : Int} {ss : List Stg} {rate : Option Int} (C : Rc dial ss rate) : ∀ t ∈ slopesOf dial ss, t.lo < ab dial + 3 + sumL ss ∧ ∀ g, t.hi = some g → g < ab dial + 3 + sumL ss := fun t ht => by
  have P0 : ∀ s ∈ ss, ∀ a b, s = .pass a b → 0 ≤ b := fun s hs a b e => by
    have := C.R.ok s hs
    rw [e] at this
    exact Int.le_trans this.1 this.2.1
  have := str_fin (dial := dial) ss _ [⟨0, none, 0, 1⟩] 0 C.passOk P0 cov_start (Int.le_refl _) (fun t ht => by
    rw [List.mem_singleton.mp ht]
    exact ⟨Int.le_refl _, (fun g z => nomatch z), fun _ => ⟨rfl, Int.le_refl _⟩⟩) t (mem_slopes.mp ht).1
  have a0 := (ab_nn dial).1
  have one : (dials ss : Int) * ab dial ≤ ab dial := by
    have h1 := C.R.one
    rcases (by omega : dials ss = 0 ∨ dials ss = 1) with z | z <;> rw [z] <;> simp
    exact a0
  exact ⟨by have := this.lo; omega, fun g z => by have := this.hi g z; omega⟩
end Kx

set_option Elab.async false
set_option linter.all false
set_option maxRecDepth 100000
set_option maxHeartbeats 2000000

namespace Kx
open PySem PySem.Spec PyProof.Rows L2 HX
open Evl (Ex)
local macro_rules | `(tactic| walk_at "side") => `(tactic| first | assumption | ((try dsimp only); first | assumption | decide +kernel | omega | exact ⟨by decide, by decide⟩ | (left; decide) | (left; omega) | (refine Or.inl ⟨?_, ?_⟩ <;> omega) | (refine Or.inr ⟨?_, ?_⟩ <;> omega)))
local macro_rules | `(tactic| walk_at "heap") => `(tactic| first | assumption | exact upd_same | exact Or.inl (by assumption) | exact Or.inl upd_same)
local macro_rules | `(tactic| walk_at "item") => `(tactic| first | exact rfl | exact atI_nat (j := 0) rfl | exact atI_nat (j := 1) rfl | exact atI_nat (j := 2) rfl | assumption)
local macro_rules | `(tactic| walk_at "rd") => `(tactic| repeat (first
  | ((with_reducible refine' go_var ?hv ?_); (case hv => exact rfl))
  | with_reducible refine' go_c ?_
  | with_reducible refine' go_op ?_
  | with_reducible refine' go_seq ?_
  | with_reducible refine' go_asg ?_
  | with_reducible refine' go_name ?_
  | with_reducible refine' go_cons ?_
  | with_reducible refine' go_nil ?_
  | with_reducible refine' go_cb ?_
  | with_reducible refine' go_call ?_
  | with_reducible refine' go_ifS ?_
  | with_reducible refine' go_test ?_
  | with_reducible refine' go_bl ?_
  | with_reducible refine' go_ret ?_
  | with_reducible refine' go_I0 ?_
  | ((with_reducible refine' go_I ?cc ?_); (case cc => walk_at "side"))
  | ((with_reducible refine' go_ixL ?hh ?hk ?_); (case hh => walk_at "heap"); (case hk => walk_at "item"))
  | ((with_reducible refine' go_ixT ?hh ?hk ?_); (case hh => walk_at "heap"); (case hk => walk_at "item"))
  | ((with_reducible refine' go_lenL ?hh ?_); (case hh => walk_at "heap"))
  | ((with_reducible refine' go_lenT ?hh ?_); (case hh => walk_at "heap"))
  | ((with_reducible refine' go_setL ?hh ?hk ?_); (case hh => walk_at "heap"); (case hk => walk_at "item"))
  | with_reducible refine' go_abs ?_
  | with_reducible refine' go_max ?_
  | with_reducible refine' go_min ?_
  | with_reducible refine' go_int ?_
  | with_reducible refine' go_intB ?_
  | (with_reducible refine' go_eq rfl ?_)
  | (with_reducible refine' go_ne rfl ?_)
  | with_reducible refine' go_isN ?_
  | with_reducible refine' go_notN ?_
  | with_reducible refine' go_if ?_
  | with_reducible refine' go_sub ?_
  | with_reducible refine' go_par ?_
  | with_reducible refine' go_sl ?_
  | with_reducible refine' go_part ?_
  | with_reducible refine' go_pint ?_
  | with_reducible refine' go_nopart ?_
  | ((with_reducible refine' go_lenL ?hh ?_); (case hh => walk_at "heap"))
  | ((with_reducible refine' go_lenT ?hh ?_); (case hh => walk_at "heap"))
  | ((with_reducible refine' go_lenS ?hh ?_); (case hh => assumption))
  | with_reducible refine' go_gcons ?_
  | with_reducible refine' go_gnil ?_
  | with_reducible refine' go_kw ?_
  | with_reducible refine' go_par2 ?_
  | with_reducible refine' go_next ?_
  | with_reducible refine' go_drop ?_
  | with_reducible refine' go_and ?_
  | with_reducible refine' go_or ?_
  | with_reducible refine' go_not ?_
  | with_reducible refine' go_B ?_
  | with_reducible refine' go_andV ?_
  | with_reducible refine' go_orV ?_
  | with_reducible refine' go_notV ?_
  | with_reducible refine' go_chain ?_
  | with_reducible refine' go_un ?_
  | with_reducible refine' go_U ?_
  | with_reducible refine' go_bm ?_
  | with_reducible refine' go_tup ?_
  | with_reducible refine' go_lst ?_
  | with_reducible refine' go_forR1 ?_
  | with_reducible refine' go_forR2 ?_
  | with_reducible refine' go_forL ?_
  | with_reducible refine' go_forT ?_
  | with_reducible refine' go_forE ?_
  | with_reducible refine' go_lcR1 ?_
  | with_reducible refine' go_lcL ?_
  | with_reducible refine' go_lcT ?_
  | ((with_reducible refine' go_tyL ?hh ?_); (case hh => walk_at "heap"))
  | ((with_reducible refine' go_new ?hz ?_); (case hz => exact Nat.le_of_ble_eq_true rfl))
  | (with_reducible refine' ⟨_, rfl, ?_⟩)
  ))
--MACEND
/-- the last tone -/
def lastAll (dial : Int) (ss : List Stg) (rate : Option Int) (n : Int) : Option Int := match rate with
  | none => lastT dial ss (some n)
  | some r => sampled r (lastT dial ss (some n))
theorem tones_last (dial : Int) : ∀ (ss : List Stg) (n : Option Int), ss ≠ [] → ∃ l, tones dial ss n = l ++ [lastT dial ss n]
  | [], _, h => absurd rfl h
  | [s], n, _ => ⟨[], rfl⟩
  | s :: t :: ss, n, _ => by
    obtain ⟨l, h⟩ := tones_last dial (t :: ss) (s.step dial n) (by simp)
    exact ⟨s.step dial n :: l, by simp only [tones, lastT] at h ⊢; rw [h]; rfl⟩
theorem all_last (dial : Int) (ss : List Stg) (rate : Option Int) (n : Int) (h : ss ≠ []) : ∃ l, allTones dial ss rate n = l ++ [lastAll dial ss rate n] := by
  cases rate with
  | none =>
    obtain ⟨l, e⟩ := tones_last dial ss (some n) h
    exact ⟨l, by simp [allTones, lastAll, e]⟩
  | some r => exact ⟨_, rfl⟩
theorem at_last {l : List (Option Int)} {x : Option Int} : atI ((l ++ [x]).map optV) (-1) = some (optV x) := by
  rw [List.map_append]
  exact atI_last _ _
/-- distances by sums and differences -/
theorem far_max (n c : Int) : (if c > n then c else n) * 2 - n - c = if n - c < 0 then -(n - c) else n - c := by
  split <;> split <;> omega
theorem mod_neg (n r : Int) (h : 0 < r) : (0 - n) % r = if n % r = 0 then 0 else r - n % r := by
  have e : n = r * (n / r) + n % r := (Int.mul_ediv_add_emod n r).symm
  have h0 := Int.emod_nonneg n (show r ≠ 0 by omega)
  have h1 := Int.emod_lt_of_pos n h
  have e2 : 0 - n = -(n % r) + r * (-(n / r)) := by
    rw [Int.mul_neg]
    omega
  rw [e2, Int.add_mul_emod_self_left]
  split
  · rename_i z
    rw [z]
    rfl
  · rename_i z
    have e3 : -(n % r) = (r - n % r) + r * (-1) := by omega
    rw [e3, Int.add_mul_emod_self_left]
    exact Int.emod_eq_of_lt (by omega) (by omega)
theorem sampled_min (n r : Int) (h : 0 < r) : sampled r (some n) = some (if (0 - n) % r < n % r then (0 - n) % r else n % r) := by
  have h0 := Int.emod_nonneg n (show r ≠ 0 by omega)
  have h1 := Int.emod_lt_of_pos n h
  have e : (if (0 - n) % r < n % r then (0 - n) % r else n % r) = if r - n % r < n % r then r - n % r else n % r := by
    rw [mod_neg n r h]
    generalize n % r = m at *
    by_cases hm : m = 0
    · subst hm
      rw [if_pos rfl, if_neg (by omega), if_neg (by omega)]
    · rw [if_neg hm]
  rw [e]
  rfl
section
variable {P : Program} {w : World} {K : PySem.W.Frag} {mg : Str → Option Value} {base : Heap}
/-- the law's own tones -/
def spParts : Sp := fun vs H Q _ => ∃ (x : V) (dial n b : Int) (ss : List Stg) (rate : Option Int), vs = [x, .int dial, .int n] ∧ Dq H x (radD ss rate) ∧ Rad b ss rate ∧
  ∀ p H', H p = none → Ex H H' → H' p = some (.lst ((allTones dial ss rate n).map optV)) → Q (.ref p) H'
abbrev s__law_parts : Stmt := top 48
theorem sc__law_parts : FnScope ["radio", "tuned", "wave", "found", "here", "stage"] ["radio", "tuned", "wave"] (defScope s__law_parts) := ⟨rfl, rfl, rfl, by decide +kernel, rfl, by decide +kernel, by decide +kernel⟩
theorem ok_law_parts {f : Addr} {fd : FuncData} (F : Fun K "_law_parts" "_law_parts" s__law_parts f fd) (m_max : mg "max" = none) (m_min : mg "min" = none) (m_int : mg "int" = none) : FnOk P w K mg base CX0 1 f fd ["radio", "tuned", "wave"] spParts := by
  refine F.ok sc__law_parts (fun vs H Q E h => ?_) (fun cdv A outer s H vs Q E hr h => ?_)
  · obtain ⟨x, dial, n, b, ss, rate, rfl, _⟩ := h
    rfl
  · obtain ⟨x, dial, n, b, ss, rate, rfl, hd, R, k⟩ := h
    refine ⟨_, (pss_cons (ps_par (i := 3) (j := 4) (by rfl) sc__law_parts.nd rfl rfl (by decide) rfl rfl (pa_cons (pe_lst pa_nil) (pa_cons (pv 2) pa_nil)) (by rfl))
  (pss_cons (ps_for PassesOwn.never rfl (pi_list (pe_ix ix_tup (pv 0) pe_int (fun _ _ => rfl))) (pg_name (i := 5) sc__law_parts.nd rfl (Or.inl rfl))
  (pss_cons (ps_if (PW.pt (pw_and (pt_cmpR op_notN1 (pv 4) pe_non (nomark _)) (pw_and1 (pt_cmpR op_eq (pe_ix ix_tup (pv 5) pe_int (fun _ _ => rfl)) pe_str (nomark _)))))
  (pss_one (ps_set (i := 4) sc__law_parts.nd rfl (Or.inl rfl) (pe_ifExp (PW.pt (pw_or (pt_cmpR op_lt (pv 4) (pe_ix ix_tup (pv 5) pe_int (fun _ _ => rfl)) (nomark _)) (pw_or1 (pt_cmpR op_gt (pv 4) (pe_ix ix_tup (pv 5) pe_int (fun _ _ => rfl)) (nomark _))))) pe_non (pv 4))))
  (pss_one (ps_if (pt_cmpR op_notN1 (pv 4) pe_non (nomark _))
  (pss_cons (ps_set (i := 4) sc__law_parts.nd rfl (Or.inl rfl) (pe_op op_sub (pe_op op_sub (pe_op op_mul (pe_callB (call_maxQ rfl) rfl m_max boot_max (pa_cons (pv 4) (pa_cons (pe_op op_add (pe_ix ix_tup (pv 5) pe_int (fun _ _ => rfl)) (pe_ifExp (pt_cmpR op_eq (pe_ix ix_tup (pv 5) pe_int (fun _ _ => rfl)) pe_str (nomark _)) (pv 1) pe_int)) pa_nil))) pe_int) (pv 4)) (pe_ix ix_tup (pv 5) pe_int (fun _ _ => rfl))))
  (pss_one (ps_set (i := 4) sc__law_parts.nd rfl (Or.inl rfl) (pe_op op_sub (pv 4) (pe_ifExp (pt_cmpR op_eq (pe_ix ix_tup (pv 5) pe_int (fun _ _ => rfl)) pe_str (nomark _)) (pv 1) pe_int)))))
  pss_nil)))
  (pss_one (ps_expr (pe_bm PySem.F.plainAttrs_list PySem.F.slot_list_append PySem.F.type_list_append mt_append (pv 3) (pa_cons (pv 4) pa_nil))))))
  (pss_cons (ps_if (pt_cmpR op_notN1 (pe_ix ix_tup (pv 0) pe_int (fun _ _ => rfl)) pe_non (nomark _))
  (pss_one (ps_expr (pe_bm PySem.F.plainAttrs_list PySem.F.slot_list_append PySem.F.type_list_append mt_append (pv 3) (pa_cons (pe_ifExp (pt_cmpR op_isN1 (pv 4) pe_non (nomark _)) pe_non (pe_callB (call_minQ rfl) rfl m_min boot_min (pa_cons (pe_op op_mod (pe_callTy call_intQ rfl m_int boot_int (pa_cons (pv 4) pa_nil)) (pe_ix ix_tup (pv 0) pe_int (fun _ _ => rfl))) (pa_cons (pe_op op_mod (pe_callTy call_intQ rfl m_int boot_int (pa_cons (pe_op op_sub pe_int (pv 4)) pa_nil)) (pe_ix ix_tup (pv 0) pe_int (fun _ _ => rfl))) pa_nil)))) pa_nil))))
  pss_nil)
  (pss_one (ps_ret (pv 3)))))), ?_⟩
    have n1 : decide (V.str "dial" = V.str "pass") = false := by decide +kernel
    have n2 : decide (V.str "mix" = V.str "pass") = false := by decide +kernel
    have n3 : decide (V.str "mix" = V.str "dial") = false := by decide +kernel
    obtain ⟨a, xs, rfl, ha, hda⟩ := hd.tupleAt
    obtain ⟨v1, v2, d1, d2, rfl, ed, hv1, hv2⟩ := dqa2 hda rfl
    obtain ⟨rfl, rfl⟩ : PyData.list (ss.map Stg.d) = d1 ∧ rateD rate = d2 := by simpa using ed
    obtain ⟨l, ys, rfl, hl, hys⟩ := hv1.listAt
    walk_at "rd"
    intro t ht
    walk_at "rd"
    have ha0 := Evl.ex_rd (Ex.new (o := HO.lst []) ht) ha
    walk_at "rd"
    refine ⟨⟨ys, .inl (Evl.ex_rd (Ex.new ht) hl)⟩, ?_⟩
    refine run_forL ys (fun i σ G => ∃ v5 : Option V, σ = [some (.ref a), some (.int dial), some (.int n), some (.ref t), some (optV (lastT dial (ss.take i) (some n))), v5] ∧ Ex H G ∧
        G t = some (.lst ((tones dial (ss.take i) (some n)).map optV))) ?_ ?_ ?_ ?_
    · exact ⟨_, rfl, Ex.new ht, upd_same⟩
    · rintro i σ G _ ⟨v7, rfl, eG, _⟩
      exact .inl (Evl.ex_rd eG hl)
    · rintro i y σ G hi ⟨v7, rfl, eG, hG⟩
      obtain ⟨s, hs, hds⟩ := dqa_get hys hi
      obtain ⟨q, rfl, hq⟩ := stg_at (hds.ex eG)
      obtain ⟨t1, t2⟩ := tones_take dial ss (some n) i s hs
      have fin : ∀ z : V, z = optV (s.step dial (lastT dial (ss.take i) (some n))) → tDrop (tBM K "list" rAppend (tVar 3) (tCons (tVar 4) tNil))
          { nx := fun σ G => ∃ v5 : Option V, σ = [some (.ref a), some (.int dial), some (.int n), some (.ref t), some (optV (lastT dial (ss.take (i + 1)) (some n))), v5] ∧ Ex H G ∧ G t = some (.lst ((tones dial (ss.take (i + 1)) (some n)).map optV)),
            rt := Q, bk := fun _ _ => True, ct := fun _ _ => True } [some (.ref a), some (.int dial), some (.int n), some (.ref t), some z, some (.ref q)] G := fun z hz => by
        walk_at "rd"
        refine go_app hG ?_ ?_
        · rw [List.length_map, tones_len, List.length_take]
          exact Nat.lt_of_le_of_lt (Nat.le_trans (Nat.min_le_right _ _) R.le) (by decide)
        · refine ⟨_, by rw [t2, hz], Ex.mut eG ht, ?_⟩
          rw [t1, List.map_append, hz]
          exact upd_same
      refine cut_s (fun σ' G' => G' = G ∧ σ' = [some (.ref a), some (.int dial), some (.int n), some (.ref t), some (optV (s.step dial (lastT dial (ss.take i) (some n)))), some (.ref q)]) (fun D' _ _ _ hnx => ?_) ?_
      · obtain ⟨prev, hprev⟩ : ∃ prev, prev = lastT dial (ss.take i) (some n) := ⟨_, rfl⟩
        rw [← hprev] at hnx ⊢
        have done : ∀ z, z = optV (s.step dial prev) → D'.nx [some (.ref a), some (.int dial), some (.int n), some (.ref t), some z, some (.ref q)] G := fun z hz => hnx _ _ ⟨rfl, by rw [hz]⟩
        cases prev with
        | none =>
          have h0 : (!decide (optV none = V.non)) = false := rfl
          have h1 : optV (s.step dial none) = optV none := by cases s <;> rfl
          walk_at "rd"
          rw [h0]
          refine iteF (iteF ?_)
          walk_at "rd"
          rw [h0]
          refine iteF ?_
          walk_at "rd"
          exact done _ h1.symm
        | some m =>
          have h0 : (!decide (optV (some m) = V.non)) = true := rfl
          have hm : optV (some m) = .int m := rfl
          walk_at "rd"
          rw [h0]
          refine iteT ?_
          cases s with
          | mix lo =>
            have hq' : Rd G q (.tup [.str "mix", .int lo]) := hq
            walk_at "rd"
            rw [n2]
            refine iteF ?_
            walk_at "rd"
            rw [h0]
            refine iteT ?_
            rw [hm]
            walk_at "rd"
            rw [n3]
            refine iteF ?_
            walk_at "rd"
            rw [n3]
            refine iteF ?_
            walk_at "rd"
            refine done _ ?_
            rw [Int.add_zero, Int.sub_zero, far_max]
            rfl
          | dial lo =>
            have hq' : Rd G q (.tup [.str "dial", .int lo]) := hq
            walk_at "rd"
            rw [n1]
            refine iteF ?_
            walk_at "rd"
            rw [h0]
            refine iteT ?_
            rw [hm]
            walk_at "rd"
            refine ite2 (fun _ => ?_) (fun c => absurd (decide_eq_true rfl) c)
            walk_at "rd"
            refine ite2 (fun _ => ?_) (fun c => absurd (decide_eq_true rfl) c)
            walk_at "rd"
            refine done _ ?_
            have e := far_max m (lo + dial)
            show V.int _ = V.int _
            congr 1
            rw [show dial + lo = lo + dial by omega, ← e]
            omega
          | pass lo hi =>
            have hq' : Rd G q (.tup [.str "pass", .int lo, .int hi]) := hq
            walk_at "rd"
            refine ite2 (fun _ => ?_) (fun c => absurd (decide_eq_true rfl) c)
            rw [hm]
            walk_at "rd"
            have st : (Stg.pass lo hi).step dial (some m) = if lo ≤ m ∧ m ≤ hi then some m else none := rfl
            refine ite2 (fun c => ?_) (fun c => ?_)
            · have c' : m < lo := by simpa using c
              refine iteT ?_
              walk_at "rd"
              exact done _ (by rw [st, if_neg (by omega)]; rfl)
            · have c' : ¬ m < lo := by simpa using c
              walk_at "rd"
              refine ite2 (fun c2 => ?_) (fun c2 => ?_)
              · have c2' : hi < m := by simpa using c2
                walk_at "rd"
                exact done _ (by rw [st, if_neg (by omega)]; rfl)
              · have c2' : ¬ hi < m := by simpa using c2
                walk_at "rd"
                exact done _ (by rw [st, if_pos (by omega)]; rfl)
      · rintro σ' G' ⟨rfl, rfl⟩
        exact fin _ rfl
    · rintro σ G ⟨v7, rfl, eG, hG⟩
      have hlen : ys.length = ss.length := by rw [hys.len, List.length_map]
      rw [hlen, List.take_length] at hG ⊢
      have haG := Evl.ex_rd eG ha
      walk_at "rd"
      cases rate with
      | none =>
        have hz : (!decide (v2 = V.non)) = false := by cases hv2; simp
        rw [hz]
        refine iteF ?_
        walk_at "rd"
        exact k t G ht eG (by simpa [allTones] using hG)
      | some r =>
        cases hv2
        have hz : (!decide (V.int r = V.non)) = true := by simp
        have hr0 : 0 < r := by have := (R.rate r rfl).1; omega
        rw [hz]
        refine iteT ?_
        have fin : ∀ z : V, z = optV (sampled r (lastT dial ss (some n))) → rAppend (.ref t) [z] G fun _ H1 => (tRet (tVar 3)) { nx := fun _ H' => Q .non H', rt := Q } [some (.ref a), some (.int dial), some (.int n), some (.ref t), some (optV (lastT dial ss (some n))), v7] H1 := fun z hz => by
          refine go_app hG ?_ ?_
          · rw [List.length_map, tones_len]
            exact Nat.lt_of_le_of_lt R.le (by decide)
          · walk_at "rd"
            refine k t _ ht (Ex.mut eG ht) ?_
            rw [upd_same, hz]
            simp [allTones]
        generalize lastT dial ss (some n) = prev at *
        cases prev with
        | none =>
          have h0 : decide (optV none = V.non) = true := rfl
          walk_at "rd"
          rw [h0]
          refine iteT ?_
          walk_at "rd"
          exact fin .non rfl
        | some m =>
          have h0 : decide (optV (some m) = V.non) = false := rfl
          have hm : optV (some m) = .int m := rfl
          walk_at "rd"
          rw [h0]
          refine iteF ?_
          walk_at "rd"
          rw [hm]
          walk_at "rd"
          refine fin _ ?_
          rw [sampled_min m r hr0]
          rfl
end
end Kx

set_option Elab.async false
set_option linter.all false
set_option maxRecDepth 100000
set_option maxHeartbeats 4000000

namespace Kx
open PySem PySem.Spec PyProof.Rows L2 HX
open Evl (Ex)
local macro_rules | `(tactic| walk_at "side") => `(tactic| first | assumption | ((try dsimp only); first | assumption | decide +kernel | omega | exact ⟨by decide, by decide⟩ | (left; decide) | (left; omega) | (refine Or.inl ⟨?_, ?_⟩ <;> omega) | (refine Or.inr ⟨?_, ?_⟩ <;> omega)))
local macro_rules | `(tactic| walk_at "heap") => `(tactic| first | assumption | exact upd_same | exact Or.inl (by assumption) | exact Or.inl upd_same)
local macro_rules | `(tactic| walk_at "item") => `(tactic| first | exact rfl | exact atI_nat (j := 0) rfl | exact atI_nat (j := 1) rfl | exact atI_nat (j := 2) rfl | assumption)
local macro_rules | `(tactic| walk_at "rd") => `(tactic| repeat (first
  | ((with_reducible refine' go_var ?hv ?_); (case hv => exact rfl))
  | with_reducible refine' go_c ?_
  | with_reducible refine' go_op ?_
  | with_reducible refine' go_seq ?_
  | with_reducible refine' go_asg ?_
  | with_reducible refine' go_name ?_
  | with_reducible refine' go_cons ?_
  | with_reducible refine' go_nil ?_
  | with_reducible refine' go_cb ?_
  | with_reducible refine' go_call ?_
  | with_reducible refine' go_ifS ?_
  | with_reducible refine' go_test ?_
  | with_reducible refine' go_bl ?_
  | with_reducible refine' go_ret ?_
  | with_reducible refine' go_I0 ?_
  | ((with_reducible refine' go_I ?cc ?_); (case cc => walk_at "side"))
  | ((with_reducible refine' go_ixL ?hh ?hk ?_); (case hh => walk_at "heap"); (case hk => walk_at "item"))
  | ((with_reducible refine' go_ixT ?hh ?hk ?_); (case hh => walk_at "heap"); (case hk => walk_at "item"))
  | ((with_reducible refine' go_lenL ?hh ?_); (case hh => walk_at "heap"))
  | ((with_reducible refine' go_lenT ?hh ?_); (case hh => walk_at "heap"))
  | ((with_reducible refine' go_setL ?hh ?hk ?_); (case hh => walk_at "heap"); (case hk => walk_at "item"))
  | with_reducible refine' go_abs ?_
  | with_reducible refine' go_max ?_
  | with_reducible refine' go_min ?_
  | with_reducible refine' go_int ?_
  | with_reducible refine' go_intB ?_
  | (with_reducible refine' go_eq rfl ?_)
  | (with_reducible refine' go_ne rfl ?_)
  | with_reducible refine' go_isN ?_
  | with_reducible refine' go_notN ?_
  | with_reducible refine' go_if ?_
  | with_reducible refine' go_sub ?_
  | with_reducible refine' go_par ?_
  | with_reducible refine' go_sl ?_
  | with_reducible refine' go_part ?_
  | with_reducible refine' go_pint ?_
  | with_reducible refine' go_nopart ?_
  | ((with_reducible refine' go_lenL ?hh ?_); (case hh => walk_at "heap"))
  | ((with_reducible refine' go_lenT ?hh ?_); (case hh => walk_at "heap"))
  | ((with_reducible refine' go_lenS ?hh ?_); (case hh => assumption))
  | with_reducible refine' go_gcons ?_
  | with_reducible refine' go_gnil ?_
  | with_reducible refine' go_kw ?_
  | with_reducible refine' go_par2 ?_
  | with_reducible refine' go_next ?_
  | with_reducible refine' go_drop ?_
  | with_reducible refine' go_and ?_
  | with_reducible refine' go_or ?_
  | with_reducible refine' go_not ?_
  | with_reducible refine' go_B ?_
  | with_reducible refine' go_andV ?_
  | with_reducible refine' go_orV ?_
  | with_reducible refine' go_notV ?_
  | with_reducible refine' go_chain ?_
  | with_reducible refine' go_un ?_
  | with_reducible refine' go_U ?_
  | with_reducible refine' go_bm ?_
  | with_reducible refine' go_tup ?_
  | with_reducible refine' go_lst ?_
  | with_reducible refine' go_forR1 ?_
  | with_reducible refine' go_forR2 ?_
  | with_reducible refine' go_forL ?_
  | with_reducible refine' go_forT ?_
  | with_reducible refine' go_forE ?_
  | with_reducible refine' go_lcR1 ?_
  | with_reducible refine' go_lcL ?_
  | with_reducible refine' go_lcT ?_
  | ((with_reducible refine' go_tyL ?hh ?_); (case hh => walk_at "heap"))
  | ((with_reducible refine' go_new ?hz ?_); (case hz => exact Nat.le_of_ble_eq_true rfl))
  | (with_reducible refine' ⟨_, rfl, ?_⟩)
  ))
--MACEND
theorem lastAll_eq (dial : Int) (ss : List Stg) (rate : Option Int) (n : Int) : lastAll dial ss rate n = toneF dial ss rate n := by
  cases rate <;> rfl
def spToneL : Sp := fun vs H Q _ => ∃ (x : V) (dial n b : Int) (ss : List Stg) (rate : Option Int), vs = [x, .int dial, .int n] ∧ Dq H x (radD ss rate) ∧ Rad b ss rate ∧ ∀ H', Ex H H' → Q (optV (toneF dial ss rate n)) H'
def spStep : Sp := fun vs H Q _ => ∃ (x : V) (dial n b : Int) (ss : List Stg) (rate : Option Int), vs = [x, .int dial, .int n] ∧ Dq H x (radD ss rate) ∧ Rad b ss rate ∧ ∀ H', Ex H H' → Q (.int (stepF (toneF dial ss rate) n)) H'
def spSlope : Sp := fun vs H Q _ => ∃ (j : Addr) (n : Nat) (x : V) (dial b : Int) (ss : List Stg) (rate : Option Int) (a : Addr) (t : Sx), vs = [.ref j, x, .int dial, .ref a] ∧ JarAt n H j ∧ n < 2 ^ 49 ∧ Dq (hid [j] H) x (radD ss rate) ∧ Rad b ss rate ∧
  H a = some (.tup t.v) ∧ a ≠ j ∧ IsSl (toneF dial ss rate) t ∧ (∀ g, t.hi = some g → g - t.lo ≤ 2 ^ 201) ∧ ∀ H', JarAt (n + 3) H' j → Jx [j] H H' → Q (.bl true) H'
theorem jar_ex {n : Nat} {H H' : Hp} {j : Addr} (e : Ex H H') (h : JarAt n H j) : JarAt n H' j := by
  obtain ⟨a, b, c, h1, h2⟩ := h
  exact ⟨a, b, c, e _ _ h1, h2⟩
section
variable {P : Program} {w : World} {K : PySem.W.Frag} {mg : Str → Option Value} {base : Heap} {CR CD CN : Addr}
abbrev s__law_tone : Stmt := top 49
theorem sc__law_tone : FnScope ["radio", "tuned", "wave"] ["radio", "tuned", "wave"] (defScope s__law_tone) := ⟨rfl, rfl, rfl, by decide +kernel, rfl, by decide +kernel, by decide +kernel⟩
theorem ok_law_tone {f : Addr} {fd : FuncData} (F : Fun K "_law_tone" "_law_tone" s__law_tone f fd) (h__law_parts : Has P w K mg base 1 "_law_parts" spParts) : FnOk P w K mg base CX0 2 f fd ["radio", "tuned", "wave"] spToneL := by
  refine F.ok sc__law_tone (fun vs H Q E h => ?_) (fun cdv A outer s H vs Q E hr h => ?_)
  · obtain ⟨x, dial, n, b, ss, rate, rfl, _⟩ := h
    rfl
  · obtain ⟨x, dial, n, b, ss, rate, rfl, hd, R, k⟩ := h
    refine ⟨_, (pss_one (ps_ret (pe_ix ix_list (pe_hs h__law_parts hr rfl (pa_cons (pv 0) (pa_cons (pv 1) (pa_cons (pv 2) pa_nil)))) (pe_un un_neg pe_int) (fun _ _ => rfl)))), ?_⟩
    obtain ⟨l, el⟩ := all_last dial ss rate n R.ne
    walk_at "rd"
    refine ⟨x, dial, n, b, ss, rate, rfl, hd, R, fun p H' hp e h => ?_⟩
    rw [el] at h
    walk_at "rd"
    refine go_ixL (.inl h) at_last ?_
    rw [lastAll_eq]
    exact k _ e
end
end Kx

set_option Elab.async false
set_option linter.all false
set_option maxRecDepth 100000
set_option maxHeartbeats 4000000

namespace Kx
open PySem PySem.Spec PyProof.Rows L2 HX
open Evl (Ex)
local macro_rules | `(tactic| walk_at "side") => `(tactic| first | assumption | ((try dsimp only); first | assumption | decide +kernel | omega | exact ⟨by decide, by decide⟩ | (left; decide) | (left; omega) | (refine Or.inl ⟨?_, ?_⟩ <;> omega) | (refine Or.inr ⟨?_, ?_⟩ <;> omega)))
local macro_rules | `(tactic| walk_at "heap") => `(tactic| first | assumption | exact upd_same | exact Or.inl (by assumption) | exact Or.inl upd_same)
local macro_rules | `(tactic| walk_at "item") => `(tactic| first | exact rfl | exact atI_nat (j := 0) rfl | exact atI_nat (j := 1) rfl | exact atI_nat (j := 2) rfl | assumption)
local macro_rules | `(tactic| walk_at "rd") => `(tactic| repeat (first
  | ((with_reducible refine' go_var ?hv ?_); (case hv => exact rfl))
  | with_reducible refine' go_c ?_
  | with_reducible refine' go_op ?_
  | with_reducible refine' go_seq ?_
  | with_reducible refine' go_asg ?_
  | with_reducible refine' go_name ?_
  | with_reducible refine' go_cons ?_
  | with_reducible refine' go_nil ?_
  | with_reducible refine' go_cb ?_
  | with_reducible refine' go_call ?_
  | with_reducible refine' go_ifS ?_
  | with_reducible refine' go_test ?_
  | with_reducible refine' go_bl ?_
  | with_reducible refine' go_ret ?_
  | with_reducible refine' go_I0 ?_
  | ((with_reducible refine' go_I ?cc ?_); (case cc => walk_at "side"))
  | ((with_reducible refine' go_ixL ?hh ?hk ?_); (case hh => walk_at "heap"); (case hk => walk_at "item"))
  | ((with_reducible refine' go_ixT ?hh ?hk ?_); (case hh => walk_at "heap"); (case hk => walk_at "item"))
  | ((with_reducible refine' go_lenL ?hh ?_); (case hh => walk_at "heap"))
  | ((with_reducible refine' go_lenT ?hh ?_); (case hh => walk_at "heap"))
  | ((with_reducible refine' go_setL ?hh ?hk ?_); (case hh => walk_at "heap"); (case hk => walk_at "item"))
  | with_reducible refine' go_abs ?_
  | with_reducible refine' go_max ?_
  | with_reducible refine' go_min ?_
  | with_reducible refine' go_int ?_
  | with_reducible refine' go_intB ?_
  | (with_reducible refine' go_eq rfl ?_)
  | (with_reducible refine' go_ne rfl ?_)
  | with_reducible refine' go_isN ?_
  | with_reducible refine' go_notN ?_
  | with_reducible refine' go_if ?_
  | with_reducible refine' go_sub ?_
  | with_reducible refine' go_par ?_
  | with_reducible refine' go_sl ?_
  | with_reducible refine' go_part ?_
  | with_reducible refine' go_pint ?_
  | with_reducible refine' go_nopart ?_
  | ((with_reducible refine' go_lenL ?hh ?_); (case hh => walk_at "heap"))
  | ((with_reducible refine' go_lenT ?hh ?_); (case hh => walk_at "heap"))
  | ((with_reducible refine' go_lenS ?hh ?_); (case hh => assumption))
  | with_reducible refine' go_gcons ?_
  | with_reducible refine' go_gnil ?_
  | with_reducible refine' go_kw ?_
  | with_reducible refine' go_par2 ?_
  | with_reducible refine' go_next ?_
  | with_reducible refine' go_drop ?_
  | with_reducible refine' go_and ?_
  | with_reducible refine' go_or ?_
  | with_reducible refine' go_not ?_
  | with_reducible refine' go_B ?_
  | with_reducible refine' go_andV ?_
  | with_reducible refine' go_orV ?_
  | with_reducible refine' go_notV ?_
  | with_reducible refine' go_chain ?_
  | with_reducible refine' go_un ?_
  | with_reducible refine' go_U ?_
  | with_reducible refine' go_bm ?_
  | with_reducible refine' go_tup ?_
  | with_reducible refine' go_lst ?_
  | with_reducible refine' go_forR1 ?_
  | with_reducible refine' go_forR2 ?_
  | with_reducible refine' go_forL ?_
  | with_reducible refine' go_forT ?_
  | with_reducible refine' go_forE ?_
  | with_reducible refine' go_lcR1 ?_
  | with_reducible refine' go_lcL ?_
  | with_reducible refine' go_lcT ?_
  | ((with_reducible refine' go_tyL ?hh ?_); (case hh => walk_at "heap"))
  | ((with_reducible refine' go_new ?hz ?_); (case hz => exact Nat.le_of_ble_eq_true rfl))
  | (with_reducible refine' ⟨_, rfl, ?_⟩)
  ))
--MACEND
/-- mixers that double -/
def zig (a : Int) : Nat → List Stg
  | 0 => []
  | c + 1 => .mix (a * 2 ^ c) :: zig a c
theorem zig_len (a : Int) : ∀ c, (zig a c).length = c
  | 0 => rfl
  | c + 1 => by simp [zig, zig_len a c]
def spZig : Sp := fun vs H Q _ => ∃ (a : Int) (c : Nat), vs = [.int a, .int c] ∧ c ≤ 8 ∧ 0 ≤ a ∧ a ≤ 2 ^ 110 ∧ ∀ p H', Ex H H' → Dq H' (.ref p) (.list ((zig a c).map Stg.d)) → Q (.ref p) H'
def spGreat : Sp := fun vs H Q _ => ∃ (j : Addr) (most : Int) (n : Nat), vs = [.ref j, .int most] ∧ JarAt n H j ∧ n < 2 ^ 39 ∧ 1 ≤ most ∧ most ≤ 8 ∧
  ∀ (p : Addr) (ss : List Stg) (rate : Option Int) (H' : Hp), Rad (10 ^ 39) ss rate → Dq (hid [j] H') (.ref p) (radD ss rate) → H p = none → JarAt (n + 101) H' j → Jx [j] H H' → Q (.ref p) H'
theorem Rad.mono {b c : Int} {ss : List Stg} {rate : Option Int} (R : Rad b ss rate) (h : b ≤ c) : Rad c ss rate := by
  refine ⟨R.ne, R.le, fun s hs => ?_, R.one, fun r hr => ?_⟩
  · have := R.ok s hs
    cases s with
    | mix lo => exact ⟨this.1, Int.le_trans this.2 h⟩
    | dial lo => exact ⟨by have := this.1; omega, Int.le_trans this.2 h⟩
    | pass lo hi => exact ⟨this.1, this.2.1, Int.le_trans this.2.2 h⟩
  · have := R.rate r hr
    omega
theorem dq_one {H : Hp} {t l b : Addr} {m : Int} {r : Option Int} (h1 : H t = some (.tup (Stg.mix m).vals)) (h2 : H l = some (.lst [.ref t])) (h3 : H b = some (.tup [.ref l, optV r])) : Dq H (.ref b) (radD [.mix m] r) :=
  .tup (.inl h3) (.cons (.lst (.inl h2) (.cons (.tup (.inl h1) (.cons (.str _) (.cons (.int _) .nil))) .nil)) (.cons (dq_rate _ _) .nil))
section
variable {P : Program} {w : World} {K : PySem.W.Frag} {mg : Str → Option Value} {base : Heap} {CR CD CN : Addr}
end
end Kx

set_option Elab.async false
set_option linter.all false
set_option maxRecDepth 100000
set_option maxHeartbeats 4000000
namespace Kx
open PySem PySem.Spec PyProof.Rows L2 HX
open Evl (Ex)
/-! ### slopes_at and mixed_slopes, called with what is right -/
theorem tell2 {CR CD : Addr} {dx dy : PyData} {H : Hp} {E : XK} {good : Prop} (h : fault dx = none) (h1 : isInt dy = true) (g : good) : Tell2 CR CD dx dy H E good :=
  ⟨fun f e => (by rw [h] at e; cases e), fun _ z => (by rw [h1] at z; cases z), fun _ _ => g⟩
section
variable {CR CD CS : Addr} {H : Hp} {Q : VK} {E : XK} {x : V} {ss : List Stg} {rate : Option Int} {dial sig : Int}
theorem go_at (hx : Dq H x (radD ss rate)) (C : Rc dial ss rate) (f0 : 0 ≤ sig) (fb : sig.natAbs < 2 ^ 1990) (k : ∀ q H', H q = none → Ex H H' → Lx H' q (slopesAtL rate (slopesOf dial ss) sig) → Q (.ref q) H') : spAtE CR CD CS [x, .int dial, .int sig] H Q E := by
  refine ⟨x, .int dial, .int sig, radD ss rate, .int dial, .int sig, rfl, hx, .int _, .int _, C.low3 fb, tell3 (fault_right C.R) rfl (decide_eq_true f0) ?_⟩
  intro ss' rate' dial' far' e1 e2 e3 _ _ _ q H' n e
  obtain ⟨rfl, rfl⟩ := rad_inj e1
  cases e2
  cases e3
  exact k q H' n e
theorem go_mixed (hx : Dq H x (radD ss rate)) (C : Rc dial ss rate) (k : ∀ q H', H q = none → Ex H H' → Lx H' q (slopesOf dial ss) → Q (.ref q) H') : spMixedE CR CD [x, .int dial] H Q E := by
  refine ⟨x, .int dial, radD ss rate, .int dial, rfl, hx, .int _, tell2 (fault_right C.R) rfl ?_⟩
  intro ss' rate' dial' e1 e2 _ q H' n e
  obtain ⟨rfl, rfl⟩ := rad_inj e1
  cases e2
  exact k q H' n e
end
def isw (z : Int) : Bool := inV (.int z) [V.int 1, V.int (-1)]
theorem isw_zero : isw 0 = false := by decide
theorem isw_way {t : Sx} (h : Wy t) : isw t.way = true := by
  unfold isw
  rcases h with w | w <;> rw [w] <;> decide
theorem dq_ints (H : Hp) : ∀ l : List Int, DqAll H (l.map V.int) (l.map PyData.int)
  | [] => .nil
  | z :: l => .cons (.int z) (dq_ints H l)
theorem lay_ints : ∀ l : List Int, PyData.canLayAll0 (l.map PyData.int) = true ∧ PyData.depthAll (l.map PyData.int) = 0
  | [] => ⟨rfl, rfl⟩
  | z :: l => by
    obtain ⟨h1, h2⟩ := lay_ints l
    refine ⟨by rw [List.map_cons, PyData.canLayAll0, h1]; rfl, ?_⟩
    rw [List.map_cons, PyData.depthAll, h2]
    rfl
theorem shaped_ints (l : List Int) : SeqAt.shaped (.list (l.map PyData.int)) = true := by
  obtain ⟨h1, h2⟩ := lay_ints l
  unfold SeqAt.shaped
  rw [Bool.and_eq_true]
  refine ⟨by simpa [PyData.canLay0] using h1, decide_eq_true ?_⟩
  rw [PyData.depth, h2]
  decide
theorem eqv_ints : ∀ l : List Int, PyData.eqvAll (l.map PyData.int) (l.map PyData.int) = true
  | [] => rfl
  | z :: l => by
    rw [List.map_cons, PyData.eqvAll, eqv_ints l]
    simp [PyData.eqv]
theorem eqv_lint (l : List Int) : PyData.eqv (.list (l.map PyData.int)) (.list (l.map PyData.int)) = true := by
  rw [PyData.eqv]
  exact eqv_ints l
theorem Txs.dqa {H : Hp} : ∀ {xs : List V} {L : List Sx}, Txs H xs L → DqAll H xs (L.map sxD)
  | [], L, h => by
    have := h.len
    have : L = [] := List.length_eq_zero_iff.mp this.symm
    rw [this]
    exact .nil
  | v :: xs, [], h => by have := h.len; simp at this
  | v :: xs, t :: L, h => by
    obtain ⟨t', e, h1⟩ := h.get 0 v rfl
    obtain rfl : t = t' := by simpa using e
    refine .cons h1.dq (Txs.dqa ⟨by have := h.len; simpa using this, fun i u hu => ?_⟩)
    obtain ⟨t', e, h2⟩ := h.get (i + 1) u (by simpa using hu)
    exact ⟨t', by simpa using e, h2⟩
theorem tup_ne {n : Nat} {H : Hp} {j a : Addr} {xs : List V} (J : JarAt n H j) (h : H a = some (.tup xs)) : a ≠ j := fun z => by
  obtain ⟨p, q, r, e, _⟩ := J
  rw [z, e] at h
  cases h
end Kx

set_option Elab.async false
set_option linter.all false
set_option maxRecDepth 100000
set_option maxHeartbeats 4000000

namespace Kx
open PySem PySem.Spec PyProof.Rows L2 HX
open Evl (Ex)
local macro_rules | `(tactic| walk_at "side") => `(tactic| first | assumption | ((try dsimp only); first | assumption | decide +kernel | omega | exact ⟨by decide, by decide⟩ | (left; decide) | (left; omega) | (refine Or.inl ⟨?_, ?_⟩ <;> omega) | (refine Or.inr ⟨?_, ?_⟩ <;> omega)))
local macro_rules | `(tactic| walk_at "heap") => `(tactic| first | assumption | exact upd_same | exact Or.inl (by assumption) | exact Or.inl upd_same)
local macro_rules | `(tactic| walk_at "item") => `(tactic| first | exact rfl | exact atI_nat (j := 0) rfl | exact atI_nat (j := 1) rfl | exact atI_nat (j := 2) rfl | assumption)
local macro_rules | `(tactic| walk_at "rd") => `(tactic| repeat (first
  | ((with_reducible refine' go_var ?hv ?_); (case hv => exact rfl))
  | with_reducible refine' go_c ?_
  | with_reducible refine' go_op ?_
  | with_reducible refine' go_seq ?_
  | with_reducible refine' go_asg ?_
  | with_reducible refine' go_name ?_
  | with_reducible refine' go_cons ?_
  | with_reducible refine' go_nil ?_
  | with_reducible refine' go_cb ?_
  | with_reducible refine' go_call ?_
  | with_reducible refine' go_ifS ?_
  | with_reducible refine' go_test ?_
  | with_reducible refine' go_bl ?_
  | with_reducible refine' go_ret ?_
  | with_reducible refine' go_I0 ?_
  | ((with_reducible refine' go_I ?cc ?_); (case cc => walk_at "side"))
  | ((with_reducible refine' go_ixL ?hh ?hk ?_); (case hh => walk_at "heap"); (case hk => walk_at "item"))
  | ((with_reducible refine' go_ixT ?hh ?hk ?_); (case hh => walk_at "heap"); (case hk => walk_at "item"))
  | ((with_reducible refine' go_lenL ?hh ?_); (case hh => walk_at "heap"))
  | ((with_reducible refine' go_lenT ?hh ?_); (case hh => walk_at "heap"))
  | ((with_reducible refine' go_setL ?hh ?hk ?_); (case hh => walk_at "heap"); (case hk => walk_at "item"))
  | with_reducible refine' go_abs ?_
  | with_reducible refine' go_max ?_
  | with_reducible refine' go_min ?_
  | with_reducible refine' go_int ?_
  | with_reducible refine' go_intB ?_
  | (with_reducible refine' go_eq rfl ?_)
  | (with_reducible refine' go_ne rfl ?_)
  | with_reducible refine' go_isN ?_
  | with_reducible refine' go_notN ?_
  | with_reducible refine' go_if ?_
  | with_reducible refine' go_sub ?_
  | with_reducible refine' go_par ?_
  | with_reducible refine' go_sl ?_
  | with_reducible refine' go_part ?_
  | with_reducible refine' go_pint ?_
  | with_reducible refine' go_nopart ?_
  | ((with_reducible refine' go_lenL ?hh ?_); (case hh => walk_at "heap"))
  | ((with_reducible refine' go_lenT ?hh ?_); (case hh => walk_at "heap"))
  | ((with_reducible refine' go_lenS ?hh ?_); (case hh => assumption))
  | with_reducible refine' go_gcons ?_
  | with_reducible refine' go_gnil ?_
  | with_reducible refine' go_kw ?_
  | with_reducible refine' go_par2 ?_
  | with_reducible refine' go_next ?_
  | with_reducible refine' go_drop ?_
  | with_reducible refine' go_and ?_
  | with_reducible refine' go_or ?_
  | with_reducible refine' go_not ?_
  | with_reducible refine' go_B ?_
  | with_reducible refine' go_andV ?_
  | with_reducible refine' go_orV ?_
  | with_reducible refine' go_notV ?_
  | with_reducible refine' go_chain ?_
  | with_reducible refine' go_un ?_
  | with_reducible refine' go_U ?_
  | with_reducible refine' go_bm ?_
  | with_reducible refine' go_tup ?_
  | with_reducible refine' go_lst ?_
  | with_reducible refine' go_forR1 ?_
  | with_reducible refine' go_forR2 ?_
  | with_reducible refine' go_forL ?_
  | with_reducible refine' go_forT ?_
  | with_reducible refine' go_forE ?_
  | with_reducible refine' go_lcR1 ?_
  | with_reducible refine' go_lcL ?_
  | with_reducible refine' go_lcT ?_
  | ((with_reducible refine' go_tyL ?hh ?_); (case hh => walk_at "heap"))
  | ((with_reducible refine' go_new ?hz ?_); (case hz => exact Nat.le_of_ble_eq_true rfl))
  | (with_reducible refine' ⟨_, rfl, ?_⟩)
  ))
--MACEND
theorem ixN_end {n : Nat} (h : 0 < n) : ixN n (-1) = some (n - 1) := by
  unfold ixN
  rw [if_neg (by decide), if_pos (by omega)]
  congr 1
  omega
theorem atI_end {xs : List V} {v : V} : atI (xs ++ [v]) (-1) = some v := atI_last _ _
theorem Txs.split {H : Hp} {xs : List V} {M : List Sx} {u : Sx} (h : Txs H xs (M ++ [u])) : ∃ ys v, xs = ys ++ [v] ∧ Txs H ys M ∧ Tx H v u := by
  have hl := h.len
  rw [List.length_append, List.length_singleton] at hl
  rcases List.eq_nil_or_concat xs with rfl | ⟨ys, v, rfl⟩
  · simp at hl
  · rw [List.concat_eq_append] at *
    rw [List.length_append, List.length_singleton] at hl
    have e : ys.length = M.length := by omega
    refine ⟨ys, v, rfl, ⟨e, fun i z hz => ?_⟩, ?_⟩
    · have hi := (List.getElem?_eq_some_iff.mp hz).1
      obtain ⟨t, ht, q⟩ := h.get i z (by rw [List.getElem?_append_left hi]; exact hz)
      exact ⟨t, by rw [List.getElem?_append_left (by omega)] at ht; exact ht, q⟩
    · obtain ⟨t, ht, q⟩ := h.get ys.length v (by simp)
      rw [e] at ht
      obtain rfl : u = t := by simpa using ht
      exact q
theorem asc_len (k : Int) : ∀ (L : List Sx) (n : Int), (∀ t ∈ L, n ≤ t.lo ∧ t.lo < k) → L.Pairwise (fun s t => s.lo < t.lo) → (L.length : Int) ≤ if n ≤ k then k - n else 0
  | [], n, _, _ => by simp only [List.length_nil]; split <;> omega
  | t :: L, n, h, p => by
    obtain ⟨p1, p2⟩ := List.pairwise_cons.mp p
    have ht := h t List.mem_cons_self
    have := asc_len k L (t.lo + 1) (fun u hu => ⟨p1 u hu, (h u (List.mem_cons_of_mem _ hu)).2⟩) p2
    rw [if_pos (by omega)] at this
    rw [if_pos (by omega), List.length_cons]
    push_cast
    omega
/-- no more slopes than signals -/
theorem RunAt.len {f : Int → Option Int} {L : List Sx} {k : Nat} (R : RunAt f k L) : L.length ≤ k := by
  have := asc_len k L 0 (fun t ht => ⟨(R.sl t ht).1.lo, (R.sl t ht).2⟩) R.asc
  rw [if_pos (by omega)] at this
  omega
def spEnd : Sp := fun vs H Q _ => ∃ (x : V) (dial b : Int) (ss : List Stg) (rate : Option Int), vs = [x, .int dial] ∧ Dq H x (radD ss rate) ∧ Rad b ss rate ∧ ∀ H', Ex H H' → Q (.int (ab dial + 3 + sumL ss)) H'
def spRuns : Sp := fun vs H Q _ => ∃ (q : Addr) (f : Int → Option Int) (k : Nat), vs = [.ref q] ∧ H q = some (.lst ((List.range (k + 1)).map fun i => optV (f (i : Nat)))) ∧ k ≤ 100000 ∧ (∀ x : Int, 0 ≤ x → x < k → stepF f x ≠ 0 → ∃ t, IsSl f t ∧ inS t x ∧ inS t (x + 1)) ∧
  ∀ p L H', H p = none → Ex H H' → RunAt f k L → Lx H' p (L.map (trunc k)) → Q (.ref p) H'
section
variable {P : Program} {w : World} {K : PySem.W.Frag} {mg : Str → Option Value} {base : Heap}
abbrev s__law_end : Stmt := top 50
theorem sc__law_end : FnScope ["radio", "tuned", "found", "stage"] ["radio", "tuned"] (defScope s__law_end) := ⟨rfl, rfl, rfl, by decide +kernel, rfl, by decide +kernel, by decide +kernel⟩
theorem ok_law_end {f : Addr} {fd : FuncData} (F : Fun K "_law_end" "_law_end" s__law_end f fd) (m_abs : mg "abs" = none) : FnOk P w K mg base CX0 1 f fd ["radio", "tuned"] spEnd := by
  refine F.ok sc__law_end (fun vs H Q E h => ?_) (fun cdv A outer s H vs Q E hr h => ?_)
  · obtain ⟨x, dial, b, ss, rate, rfl, _⟩ := h
    rfl
  · obtain ⟨x, dial, b, ss, rate, rfl, hd, R, k⟩ := h
    refine ⟨_, (pss_cons (ps_set (i := 2) sc__law_end.nd rfl (Or.inl rfl) (pe_op op_add (pe_callB call_absQ rfl m_abs (by decide +kernel) (pa_cons (pv 1) pa_nil)) pe_int))
  (pss_cons (ps_for PassesOwn.never rfl (pi_list (pe_ix ix_tup (pv 0) pe_int (fun _ _ => rfl))) (pg_name (i := 3) sc__law_end.nd rfl (Or.inl rfl))
  (pss_one (ps_set (i := 2) sc__law_end.nd rfl (Or.inl rfl) (pe_op op_add (pv 2) (pe_callB call_absQ rfl m_abs (by decide +kernel) (pa_cons (pe_ix ix_tup (pv 3) (pe_un un_neg pe_int) (fun _ _ => rfl)) pa_nil))))))
  (pss_one (ps_ret (pv 2))))), ?_⟩
    obtain ⟨a, xs, rfl, ha, hda⟩ := hd.tupleAt
    obtain ⟨v1, v2, d1, d2, rfl, ed, hv1, hv2⟩ := dqa2 hda rfl
    obtain ⟨rfl, rfl⟩ : PyData.list (ss.map Stg.d) = d1 ∧ rateD rate = d2 := by simpa using ed
    obtain ⟨l, ys, rfl, hl, hys⟩ := hv1.listAt
    walk_at "rd"
    refine ⟨⟨ys, .inl hl⟩, ?_⟩
    refine run_forL ys (fun i σ G => ∃ v3 : Option V, σ = [some (.ref a), some (.int dial), some (.int (ab dial + 3 + sumL (ss.take i))), v3] ∧ G = H) ?_ ?_ ?_ ?_
    · exact ⟨_, by rw [List.take_zero]; show _ = [_, _, some (V.int (ab dial + 3 + 0)), _]; rw [Int.add_zero]; rfl, rfl⟩
    · rintro i σ G _ ⟨v3, rfl, rfl⟩
      exact .inl hl
    · rintro i y σ G hi ⟨v3, rfl, rfl⟩
      obtain ⟨s, hs, hds⟩ := dqa_get hys hi
      obtain ⟨q, rfl, hq⟩ := stg_at hds
      have e1 : sumL (ss.take (i + 1)) = sumL (ss.take i) + ab (lastN s) := by
        rw [List.take_succ, hs]
        unfold sumL
        rw [List.map_append, List.foldr_append]
        have go : ∀ (l : List Int) (z : Int), l.foldr (· + ·) z = l.foldr (· + ·) 0 + z := fun l => by
          induction l with
          | nil => intro z; simp
          | cons c l ih => intro z; rw [List.foldr_cons, List.foldr_cons, ih z]; omega
        rw [go]
        simp
      rw [e1]
      cases s with
      | mix lo =>
        have hq' : Rd G q (.tup [.str "mix", .int lo]) := hq
        walk_at "rd"
        exact ⟨_, by rw [← Int.add_assoc]; rfl, rfl⟩
      | dial lo =>
        have hq' : Rd G q (.tup [.str "dial", .int lo]) := hq
        walk_at "rd"
        exact ⟨_, by rw [← Int.add_assoc]; rfl, rfl⟩
      | pass lo hi =>
        have hq' : Rd G q (.tup [.str "pass", .int lo, .int hi]) := hq
        walk_at "rd"
        exact ⟨_, by rw [← Int.add_assoc]; rfl, rfl⟩
    · rintro σ G ⟨v3, rfl, rfl⟩
      have hlen : ys.length = ss.length := by rw [hys.len, List.length_map]
      rw [hlen, List.take_length]
      walk_at "rd"
      exact k _ (Ex.refl _)
abbrev s__law_runs : Stmt := top 51
theorem sc__law_runs : FnScope ["pitches", "found", "way", "spot", "one", "two", "step"] ["pitches"] (defScope s__law_runs) := ⟨rfl, rfl, rfl, by decide +kernel, rfl, by decide +kernel, by decide +kernel⟩
theorem ok_law_runs {f : Addr} {fd : FuncData} (F : Fun K "_law_runs" "_law_runs" s__law_runs f fd) (m_range : mg "range" = none) (m_len : mg "len" = none) (m_abs : mg "abs" = none) : FnOk P w K mg base CX0 1 f fd ["pitches"] spRuns := by
  refine F.ok sc__law_runs (fun vs H Q E h => ?_) (fun cdv A outer s H vs Q E hr h => ?_)
  · obtain ⟨q, g, n, rfl, _⟩ := h
    rfl
  · obtain ⟨q, g, n, rfl, hq, hn, hs, k⟩ := h
    refine ⟨_, (pss_cons (ps_par (i := 1) (j := 2) (by rfl) sc__law_runs.nd rfl rfl (by decide) rfl rfl (pa_cons (pe_lst pa_nil) (pa_cons pe_int pa_nil)) (by rfl))
  (pss_cons (ps_for PassesOwn.never rfl (pi_range2 (by rfl) m_range (pa_cons pe_int (pa_cons (pe_callB call_lenQ rfl m_len PySem.boot_len (pa_cons (pv 0) pa_nil)) pa_nil))) (pg_name (i := 3) sc__law_runs.nd rfl (Or.inl rfl))
  (pss_cons (ps_par (i := 4) (j := 5) (by rfl) sc__law_runs.nd rfl rfl (by decide) rfl rfl (pa_cons (pe_ix ix_list (pv 0) (pe_op op_sub (pv 3) pe_int) (fun _ _ => rfl)) (pa_cons (pe_ix ix_list (pv 0) (pv 3) (fun _ _ => rfl)) pa_nil)) (by rfl))
  (pss_cons (ps_set (i := 6) sc__law_runs.nd rfl (Or.inl rfl) (pe_ifExp (PW.pt (pw_or (pt_cmpR op_isN1 (pv 4) pe_non (nomark _)) (pw_or (pt_cmpR op_isN1 (pv 5) pe_non (nomark _)) (pw_or1 (pt_cmpR op_ne (pe_callB call_absQ rfl m_abs (by decide +kernel) (pa_cons (pe_op op_sub (pv 5) (pv 4)) pa_nil)) pe_int (nomark _)))))) pe_int (pe_op op_sub (pv 5) (pv 4))))
  (pss_cons (ps_if (PW.pt (pw_and (pt_cmpR op_ne (pv 6) pe_int (nomark _)) (pw_and1 (pt_cmpR op_eq (pv 6) (pv 2) (nomark _)))))
  (pss_one (ps_asg (pe_tup (pa_cons (pe_ix ix_tup (pe_ix ix_list (pv 1) (pe_un un_neg pe_int) (fun _ _ => rfl)) pe_int (fun _ _ => rfl)) (pa_cons (pv 3) (pa_cons (pe_ix ix_tup (pe_ix ix_list (pv 1) (pe_un un_neg pe_int) (fun _ _ => rfl)) pe_int (fun _ _ => rfl)) (pa_cons (pv 2) pa_nil))))) (pg_sub (pv 1) (pe_un un_neg pe_int) set_list)))
  (pss_one (ps_if (pt_cmpR op_ne (pv 6) pe_int (nomark _))
  (pss_one (ps_expr (pe_bm PySem.F.plainAttrs_list PySem.F.slot_list_append PySem.F.type_list_append mt_append (pv 1) (pa_cons (pe_tup (pa_cons (pe_op op_sub (pv 3) pe_int) (pa_cons (pv 3) (pa_cons (pv 4) (pa_cons (pv 6) pa_nil))))) pa_nil))))
  pss_nil)))
  (pss_one (ps_set (i := 2) sc__law_runs.nd rfl (Or.inl rfl) (pv 6)))))))
  (pss_one (ps_ret (pv 1))))), ?_⟩
    walk_at "rd"
    intro p hp
    walk_at "rd"
    have qp : q ≠ p := fun z => by rw [z, hp] at hq; cases hq
    have hq0 : upd H p (.lst []) q = _ := Ex.new hp _ _ hq
    walk_at "rd"
    refine ⟨1, (n : Int) + 1, by rw [List.length_map, List.length_range]; rfl, by omega, ?_⟩
    rw [show ((n : Int) + 1 - 1).toNat = n by omega]
    have at0 : ∀ (j : Nat) (z : Int), z = j → j ≤ n → atI ((List.range (n + 1)).map fun i => optV (g (i : Nat))) z = some (optV (g z)) := fun j z e hj => by
      subst e
      refine atI_nat ?_
      rw [List.getElem?_map, List.getElem?_range (by omega)]
      rfl
    refine run_forR (fun i σ G => ∃ (L : List Sx) (v3 v4 v5 v6 : Option V), σ = [some (.ref q), some (.ref p), some (.int (stepF g ((i : Int) - 1))), v3, v4, v5, v6] ∧ Ex H G ∧ RunAt g i L ∧ Lx G p (L.map (trunc i))) ?_ ?_ ?_
    · exact ⟨[], _, _, _, _, by rfl, Ex.new hp, run_zero, [], upd_same, .nil⟩
    · rintro i σ G hi ⟨L, v3, v4, v5, v6, rfl, eG, RL, xs, hG, hT⟩
      have hqG := eG _ _ hq
      have ne : xs.length ≤ i := by rw [hT.len, List.length_map]; exact RL.len
      have i0 : (0 : Int) ≤ i := by omega
      walk_at "rd"
      refine go_ixL (.inl hqG) (at0 i _ (by omega) (by omega)) ?_
      walk_at "rd"
      refine go_ixL (.inl hqG) (at0 (i + 1) _ (by omega) (by omega)) ?_
      rw [show 1 + (i : Int) - 1 = i by omega, show 1 + (i : Int) = i + 1 by omega]
      refine Exists.intro _ (Exists.intro _ (And.intro rfl ?_))
      dsimp only
      with_reducible refine' go_seq ?_
      with_reducible refine' go_asg ?_
      refine cut_e (te := tIf _ _ _) (fun v H' => v = .int (stepF g i) ∧ H' = G) (fun Q' q' => ?_) ?_
      · have nz : stepF g i ≠ 0 → stepF g i = 1 ∨ stepF g i = -1 := fun z => by
          obtain ⟨t, T, i1, i2⟩ := hs (i : Int) i0 (by omega) z
          rw [T.step i1 i2]
          exact T.w
        unfold stepF at q' nz
        rw [if_neg (by omega)] at q' nz
        walk_at "rd"
        cases ha : g i with
        | none =>
          rw [ha] at q'
          refine iteT (iteT ?_)
          walk_at "rd"
          exact q' _ _ ⟨rfl, rfl⟩
        | some a =>
          rw [ha] at q' nz
          refine iteF ?_
          walk_at "rd"
          cases hb : g (i + 1) with
          | none =>
            rw [hb] at q'
            refine iteT (iteT ?_)
            walk_at "rd"
            exact q' _ _ ⟨rfl, rfl⟩
          | some b =>
            rw [hb] at q' nz
            refine iteF ?_
            show tTest (tOp rNe (tCB rAbsQ (tCons (tOp _ (tVar _) (tVar _)) tNil)) _) _ _ _
            walk_at "rd"
            show rI0 _ (.int b) (.int a) _ _
            walk_at "rd"
            dsimp only at q' nz
            refine ite2 (fun c => ?_) (fun c => ?_)
            · have c' : ¬ (if b - a < 0 then -(b - a) else b - a) = 1 := by simpa using c
              walk_at "rd"
              refine q' _ _ ⟨?_, rfl⟩
              congr 1
              by_cases z : b - a = 0
              · exact z.symm
              · rcases nz z with w | w <;> rw [w] at c' <;> exact absurd (by decide) c'
            · show tOp _ (tVar _) (tVar _) _ _ _
              walk_at "rd"
              show rI0 _ (.int b) (.int a) _ _
              walk_at "rd"
              exact q' _ _ ⟨rfl, rfl⟩
      rintro v G' ⟨rfl, rfl⟩
      walk_at "rd"
      have ei : ((i + 1 : Nat) : Int) - 1 = i := by omega
      have ec : ((i + 1 : Nat) : Int) = (i : Int) + 1 := by omega
      by_cases z : stepF g i = 0
      · obtain ⟨R2, e2⟩ := run_still i0 RL z
        rw [z]
        refine iteF (iteF ?_)
        walk_at "rd"
        refine iteF ?_
        walk_at "rd"
        exact ⟨L, _, _, _, _, by rw [ei, z]; rfl, eG, by rw [ec]; exact R2, xs, hG, by rw [ec, e2]; exact hT⟩
      · obtain ⟨t, T, i1, i2⟩ := hs (i : Int) i0 (by omega) z
        have sw : stepF g i = t.way := T.step i1 i2
        refine ite2 (fun _ => ?_) (fun c => absurd (by simpa using z) c)
        walk_at "rd"
        refine ite2 (fun c => ?_) (fun c => ?_)
        · have c' : stepF g i = stepF g ((i : Int) - 1) := by simpa using c
          obtain ⟨L0, eL, R2, tl, e2⟩ := run_on i0 RL T i1 i2 (by rw [← c', sw])
          have hT' := hT
          rw [eL, List.map_append, List.map_cons, List.map_nil] at hT'
          obtain ⟨ys, v, rfl, hT0, a, rfl, ha⟩ := hT'.split
          have ha' : G' a = some (.tup [.int t.lo, optV (trunc i t).hi, .int t.num, .int t.way]) := ha
          clear ha
          walk_at "rd"
          refine go_ixL (.inl hG) atI_end ?_
          walk_at "rd"
          refine go_ixL (.inl hG) atI_end ?_
          walk_at "rd"
          intro p2 hp2
          have x2 := Ex.new (o := HO.tup [V.int t.lo, .int ((i : Int) + 1), .int t.num, .int (stepF g ((i : Int) - 1))]) hp2
          walk_at "rd"
          have e4 : stepF g ((i : Int) - 1) = t.way := by rw [← c', sw]
          refine go_setL (x2 _ _ hG) (ixN_end (by simp)) ?_
          rw [show (ys ++ [V.ref a]).set ((ys ++ [V.ref a]).length - 1) (V.ref p2) = ys ++ [V.ref p2] by
            rw [List.length_append, List.length_singleton, Nat.add_sub_cancel, List.set_append_right _ _ (Nat.le_refl _), Nat.sub_self]
            rfl]
          have pp : p2 ≠ p := fun e => by rw [e, hG] at hp2; cases hp2
          walk_at "rd"
          refine ⟨L, _, _, _, _, by rw [ei]; rfl, Ex.mut (eG.trans x2) hp, by rw [ec]; exact R2, ys ++ [.ref p2], upd_same, ?_⟩
          rw [ec, e2]
          refine ((hT0.ex x2).mut (x2 _ _ hG)).snoc ⟨p2, rfl, ?_⟩
          rw [upd_ne pp, upd_same, e4]
          rfl
        · have c' : ¬ stepF g i = stepF g ((i : Int) - 1) := by simpa using c
          obtain ⟨tl, R2, e2⟩ := run_new i0 RL T i1 i2 (by rw [← sw]; exact fun e => c' e.symm)
          have num : g i = some t.num := by rw [← tl]; exact T.num
          have on : optV (g i) = .int t.num := by rw [num]; rfl
          rw [on]
          walk_at "rd"
          refine ite2 (fun _ => ?_) (fun c => absurd (by simpa using z) c)
          walk_at "rd"
          intro p2 hp2
          have x2 := Ex.new (o := HO.tup [V.int ((i : Int) + 1 - 1), .int ((i : Int) + 1), .int t.num, .int (stepF g i)]) hp2
          walk_at "rd"
          refine go_app (x2 _ _ hG) (Nat.lt_of_le_of_lt (show xs.length ≤ 100000 by omega) (by decide)) ?_
          have pp : p2 ≠ p := fun e => by rw [e, hG] at hp2; cases hp2
          walk_at "rd"
          refine ⟨L ++ [t], _, _, _, _, by rw [ei]; rfl, Ex.mut (eG.trans x2) hp, by rw [ec]; exact R2, xs ++ [.ref p2], upd_same, ?_⟩
          rw [ec, e2]
          refine ((hT.ex x2).mut (x2 _ _ hG)).snoc ⟨p2, rfl, ?_⟩
          rw [upd_ne pp, upd_same, sw, Int.add_sub_cancel]
          rfl
    · rintro σ G ⟨L, v3, v4, v5, v6, rfl, eG, RL, hL⟩
      walk_at "rd"
      exact k _ _ _ hp eG RL hL
end
end Kx

set_option Elab.async false
set_option linter.all false
set_option maxRecDepth 100000
set_option maxHeartbeats 4000000
namespace Kx
open PySem PySem.Spec PyProof.Rows L2 HX
/-! ### all slopes of a receiver without its sampler, as they are found signal by signal -/
theorem lastT_non (dial : Int) : ∀ ss : List Stg, lastT dial ss none = none
  | [] => rfl
  | s :: ss => by
    show lastT dial ss (s.step dial none) = none
    rw [show s.step dial none = none by cases s <;> rfl]
    exact lastT_non dial ss
theorem dials_cons (s : Stg) (ss : List Stg) : ((dials (s :: ss) : Nat) : Int) = (if s.isDial then 1 else 0) + ((dials ss : Nat) : Int) := by
  unfold dials
  rw [List.filter_cons]
  cases s.isDial <;> simp [Int.add_comm]
theorem lastT_bd {dial : Int} : ∀ (ss : List Stg) (n m B : Int), lastT dial ss (some n) = some m → -B ≤ n → n ≤ B → -(B + sumL ss + dials ss * ab dial) ≤ m ∧ m ≤ B + sumL ss + dials ss * ab dial
  | [], n, m, B, h, h1, h2 => by
    have e : n = m := Option.some.inj h
    have z : sumL [] = 0 := rfl
    have d : ((dials [] : Nat) : Int) = 0 := rfl
    rw [z, d, Int.zero_mul]
    omega
  | s :: ss, n, m, B, h, h1, h2 => by
    have hs : sumL (s :: ss) = ab (lastN s) + sumL ss := rfl
    have hh : lastT dial ss (s.step dial (some n)) = some m := h
    rw [hs, dials_cons]
    cases s with
    | mix lo =>
      have a1 := ab_nn lo
      have a2 : lo ≤ ab lo ∧ -ab lo ≤ lo := by unfold ab; split <;> omega
      have := lastT_bd ss (if n - lo < 0 then -(n - lo) else n - lo) m (B + ab lo) hh (by split <;> omega) (by split <;> omega)
      have eq : B + (ab (lastN (.mix lo)) + sumL ss) + ((if Stg.isDial (.mix lo) then 1 else 0) + ((dials ss : Nat) : Int)) * ab dial = B + ab lo + sumL ss + ((dials ss : Nat) : Int) * ab dial := by
        show B + (ab lo + sumL ss) + (0 + ((dials ss : Nat) : Int)) * ab dial = _
        rw [Int.zero_add]
        omega
      rw [eq]
      exact this
    | dial lo =>
      have a1 := ab_nn lo
      have a2 : lo ≤ ab lo ∧ -ab lo ≤ lo := by unfold ab; split <;> omega
      have b1 := ab_nn dial
      have b2 : dial ≤ ab dial ∧ -ab dial ≤ dial := by unfold ab; split <;> omega
      have := lastT_bd ss (if n - (dial + lo) < 0 then -(n - (dial + lo)) else n - (dial + lo)) m (B + (ab lo + ab dial)) hh (by split <;> omega) (by split <;> omega)
      have eq : B + (ab (lastN (.dial lo)) + sumL ss) + ((if Stg.isDial (.dial lo) then 1 else 0) + ((dials ss : Nat) : Int)) * ab dial = B + (ab lo + ab dial) + sumL ss + ((dials ss : Nat) : Int) * ab dial := by
        show B + (ab lo + sumL ss) + (1 + ((dials ss : Nat) : Int)) * ab dial = _
        rw [Int.add_mul, Int.one_mul]
        omega
      rw [eq]
      exact this
    | pass a b =>
      have st : (Stg.pass a b).step dial (some n) = if a ≤ n ∧ n ≤ b then some n else none := rfl
      rw [st] at hh
      have b1 := ab_nn b
      have eq : B + (ab (lastN (.pass a b)) + sumL ss) + ((if Stg.isDial (.pass a b) then 1 else 0) + ((dials ss : Nat) : Int)) * ab dial = B + ab b + sumL ss + ((dials ss : Nat) : Int) * ab dial := by
        show B + (ab b + sumL ss) + (0 + ((dials ss : Nat) : Int)) * ab dial = _
        rw [Int.zero_add]
        omega
      rw [eq]
      split at hh
      · have := lastT_bd ss n m (B + ab b) hh (by omega) (by omega)
        exact this
      · rw [lastT_non] at hh
        cases hh
section
variable {dial : Int} {ss : List Stg} {rate : Option Int}
theorem asc_slopes (C : Rc dial ss rate) : (slopesOf dial ss).Pairwise (fun s t => s.lo < t.lo) := by
  have h := C.gd.asc
  have ok := C.gd.ok
  refine (List.Pairwise.imp_of_mem (R := Ahead) ?_) h
  intro s t hs _ ⟨g, hg, hl⟩
  have := (ok s hs).1.lt g hg
  omega
theorem Rc.plain (C : Rc dial ss rate) : Rc dial ss none := ⟨⟨C.R.ne, C.R.le, C.R.ok, C.R.one, fun r h => nomatch h⟩, C.d⟩
theorem mixed_iff (C : Rc dial ss rate) {t : Sx} : t ∈ slopesOf dial ss ↔ IsSl (mixF dial ss) t := by
  refine ⟨mixed_isl C.passOk, fun T => ?_⟩
  have z : stepF (mixF dial ss) t.lo ≠ 0 := by
    rw [T.step T.first.1 T.first.2]
    exact wy_ne T.w
  obtain ⟨s, hs, h1, h2⟩ := mixed_has C.passOk z
  rw [T.uniq2 (mixed_isl C.passOk hs) T.first.1 T.first.2 h1 h2]
  exact hs
def finOf (dial : Int) (ss : List Stg) : Int := ab dial + 3 + sumL ss
theorem end_ge (dial : Int) (ss : List Stg) : 3 ≤ finOf dial ss := by
  have := (ab_nn dial).1
  have := sumL_nn ss
  unfold finOf
  omega
theorem run_all (C : Rc dial ss rate) {L : List Sx} (R : RunAt (mixF dial ss) (finOf dial ss) L) : L = slopesOf dial ss :=
  asc_ext R.asc (asc_slopes C) fun t => ⟨fun h => (mixed_iff C).mpr (R.sl t h).1, fun h => R.all t ((mixed_iff C).mp h) (slopes_fin C t h).1⟩
theorem trunc_all (C : Rc dial ss rate) {M : List Sx} (h : ∀ t ∈ M, t ∈ slopesOf dial ss) (c : ∀ t ∈ M, t.hi ≠ none) : M.map (trunc (finOf dial ss)) = M := by
  have : M.map (trunc (finOf dial ss)) = M.map id := List.map_congr_left fun t ht => by
    cases hh : t.hi with
    | none => exact absurd hh (c t ht)
    | some g => exact trunc_same hh (Int.le_of_lt ((slopes_fin C t (h t ht)).2 g hh))
  rw [this, List.map_id]
/-- either none goes on for ever, or the last one does -/
theorem run_due (C : Rc dial ss rate) : ((slopesOf dial ss).map (trunc (finOf dial ss)) = slopesOf dial ss ∧ ∀ t ∈ slopesOf dial ss, ∃ g, t.hi = some g ∧ g < finOf dial ss) ∨
    ∃ M t, slopesOf dial ss = M ++ [t] ∧ t.hi = none ∧ (slopesOf dial ss).map (trunc (finOf dial ss)) = M ++ [⟨t.lo, some (finOf dial ss), t.num, t.way⟩] := by
  rcases List.eq_nil_or_concat (slopesOf dial ss) with e | ⟨M, t, e⟩
  · left
    rw [e]
    exact ⟨rfl, fun _ h => nomatch h⟩
  · rw [List.concat_eq_append] at e
    have asc := asc_slopes C
    rw [e] at asc
    have sep : ∀ u ∈ M, u.hi ≠ none := fun u hu z => by
      have U := (mixed_iff C).mp (show u ∈ slopesOf dial ss by rw [e]; simp [hu])
      have T := (mixed_iff C).mp (show t ∈ slopesOf dial ss by rw [e]; simp)
      obtain ⟨g, hg, _⟩ := U.sep T ((List.pairwise_append.mp asc).2.2 u hu t List.mem_cons_self)
      rw [z] at hg
      cases hg
    cases hh : t.hi with
    | none =>
      right
      refine ⟨M, t, e, hh, ?_⟩
      rw [e, List.map_append, trunc_all C (fun u hu => by rw [e]; simp [hu]) sep, List.map_cons, List.map_nil, trunc_over fun g z => by rw [hh] at z; cases z]
    | some g =>
      left
      have cl : ∀ u ∈ slopesOf dial ss, u.hi ≠ none := fun u hu => by
        rw [e] at hu
        rcases List.mem_append.mp hu with hu | hu
        · exact sep u hu
        · rw [List.mem_singleton.mp hu, hh]
          exact fun z => nomatch z
      refine ⟨trunc_all C (fun u hu => hu) cl, fun u hu => ?_⟩
      cases h2 : u.hi with
      | none => exact absurd h2 (cl u hu)
      | some g' => exact ⟨g', rfl, (slopes_fin C u hu).2 g' h2⟩
theorem small_slopes (C : Rc dial ss rate) (h : finOf dial ss ≤ 400) : ∀ t ∈ slopesOf dial ss, t.lo.natAbs < 1024 ∧ (∀ g, t.hi = some g → g.natAbs < 1024) ∧ t.num.natAbs < 1024 ∧ Wy t := fun t ht => by
  obtain ⟨f1, f2⟩ := slopes_fin C t ht
  have T := (mixed_iff C).mp ht
  have l0 := T.lo
  have e : finOf dial ss = ab dial + 3 + sumL ss := rfl
  refine ⟨by omega, fun g hg => ?_, ?_, T.w⟩
  · have := f2 g hg
    have := T.lt g hg
    omega
  · have a0 := (ab_nn dial).1
    have one : (dials ss : Int) * ab dial ≤ ab dial := by
      have h1 := C.R.one
      rcases (by omega : dials ss = 0 ∨ dials ss = 1) with z | z <;> rw [z] <;> simp
      exact a0
    have := lastT_bd ss t.lo t.num t.lo T.num (by omega) (by omega)
    omega
end
theorem lay_sx (t : Sx) : (sxD t).canLay0 = true ∧ (sxD t).depth = 1 := by
  unfold sxD
  cases t.hi <;> exact ⟨rfl, rfl⟩
theorem lay_sxs : ∀ L : List Sx, PyData.canLayAll0 (L.map sxD) = true ∧ PyData.depthAll (L.map sxD) ≤ 1
  | [] => ⟨rfl, Nat.zero_le _⟩
  | t :: L => by
    obtain ⟨h1, h2⟩ := lay_sxs L
    obtain ⟨k1, k2⟩ := lay_sx t
    refine ⟨by rw [List.map_cons, PyData.canLayAll0, k1, h1]; rfl, ?_⟩
    rw [List.map_cons, PyData.depthAll, k2]
    omega
theorem shaped_sxs (L : List Sx) : SeqAt.shaped (.list (L.map sxD)) = true := by
  obtain ⟨h1, h2⟩ := lay_sxs L
  unfold SeqAt.shaped
  rw [Bool.and_eq_true]
  refine ⟨by simpa [PyData.canLay0] using h1, decide_eq_true ?_⟩
  rw [PyData.depth]
  omega
theorem eqv_sx (t : Sx) : PyData.eqv (sxD t) (sxD t) = true := by
  unfold sxD
  cases t.hi <;> simp [PyData.eqv, PyData.eqvAll, rateD]
theorem eqv_sxs : ∀ L : List Sx, PyData.eqvAll (L.map sxD) (L.map sxD) = true
  | [] => rfl
  | t :: L => by rw [List.map_cons, PyData.eqvAll, eqv_sx, eqv_sxs L]; rfl
theorem eqv_lsx (L : List Sx) : PyData.eqv (.list (L.map sxD)) (.list (L.map sxD)) = true := by
  rw [PyData.eqv]
  exact eqv_sxs L
theorem sxs_nil (L : List Sx) : PyData.eqv (.list (L.map sxD)) (.list []) = L.isEmpty := by cases L <;> simp [PyData.eqv, PyData.eqvAll]
theorem fine_small {i : Int} (h : i.natAbs < 1024) : Fine 10 0 (.int i) := by
  have f : Fine 600 0 (.int i) := Fine.int (Nat.lt_trans h (by decide +kernel))
  have hl : i.natAbs.log2 < 10 := PySem.Flt.log2_lt_of (by decide) h
  refine ⟨f.sh, f.lv, ?_, f.dp⟩
  simp only [PyData.weight]
  split <;> omega
theorem fine_sxS {t : Sx} (h : t.lo.natAbs < 1024 ∧ (∀ g, t.hi = some g → g.natAbs < 1024) ∧ t.num.natAbs < 1024 ∧ Wy t) : Fine 44 1 (sxD t) := by
  obtain ⟨h1, h2, h3, h4⟩ := h
  refine (Fine.tuple (w := 10) (k := 0) (l := [.int t.lo, rateD t.hi, .int t.num, .int t.way]) fun x hx => ?_).mono (Nat.le_of_ble_eq_true rfl) (Nat.le_refl _)
  simp only [List.mem_cons, List.not_mem_nil, or_false] at hx
  rcases hx with rfl | rfl | rfl | rfl
  · exact fine_small h1
  · cases hh : t.hi with
    | none => exact Fine.none.mono (by decide) (by decide)
    | some g => exact fine_small (h2 g hh)
  · exact fine_small h3
  · exact fine_small (by rcases h4 with w | w <;> rw [w] <;> decide)
theorem fine_sxsS {L : List Sx} (h : ∀ t ∈ L, t.lo.natAbs < 1024 ∧ (∀ g, t.hi = some g → g.natAbs < 1024) ∧ t.num.natAbs < 1024 ∧ Wy t) (n : L.length ≤ 256) : Fine 11520 2 (.list (L.map sxD)) := by
  refine (Fine.list (w := 44) (k := 1) (l := L.map sxD) fun x hx => ?_).mono (by rw [List.length_map]; omega) (Nat.le_refl _)
  obtain ⟨t, ht, rfl⟩ := List.mem_map.mp hx
  exact fine_sxS (h t ht)
end Kx

set_option Elab.async false
set_option linter.all false
set_option maxRecDepth 100000
set_option maxHeartbeats 4000000

namespace Kx
open PySem PySem.Spec PyProof.Rows L2 HX
open Evl (Ex)
local macro_rules | `(tactic| walk_at "side") => `(tactic| first | assumption | ((try dsimp only); first | assumption | decide +kernel | omega | exact ⟨by decide, by decide⟩ | (left; decide) | (left; omega) | (refine Or.inl ⟨?_, ?_⟩ <;> omega) | (refine Or.inr ⟨?_, ?_⟩ <;> omega)))
local macro_rules | `(tactic| walk_at "heap") => `(tactic| first | assumption | exact upd_same | exact Or.inl (by assumption) | exact Or.inl upd_same)
local macro_rules | `(tactic| walk_at "item") => `(tactic| first | exact rfl | exact atI_nat (j := 0) rfl | exact atI_nat (j := 1) rfl | exact atI_nat (j := 2) rfl | assumption)
local macro_rules | `(tactic| walk_at "rd") => `(tactic| repeat (first
  | ((with_reducible refine' go_var ?hv ?_); (case hv => exact rfl))
  | with_reducible refine' go_c ?_
  | with_reducible refine' go_op ?_
  | with_reducible refine' go_seq ?_
  | with_reducible refine' go_asg ?_
  | with_reducible refine' go_name ?_
  | with_reducible refine' go_cons ?_
  | with_reducible refine' go_nil ?_
  | with_reducible refine' go_cb ?_
  | with_reducible refine' go_call ?_
  | with_reducible refine' go_ifS ?_
  | with_reducible refine' go_test ?_
  | with_reducible refine' go_bl ?_
  | with_reducible refine' go_ret ?_
  | with_reducible refine' go_I0 ?_
  | ((with_reducible refine' go_I ?cc ?_); (case cc => walk_at "side"))
  | ((with_reducible refine' go_ixL ?hh ?hk ?_); (case hh => walk_at "heap"); (case hk => walk_at "item"))
  | ((with_reducible refine' go_ixT ?hh ?hk ?_); (case hh => walk_at "heap"); (case hk => walk_at "item"))
  | ((with_reducible refine' go_lenL ?hh ?_); (case hh => walk_at "heap"))
  | ((with_reducible refine' go_lenT ?hh ?_); (case hh => walk_at "heap"))
  | ((with_reducible refine' go_setL ?hh ?hk ?_); (case hh => walk_at "heap"); (case hk => walk_at "item"))
  | with_reducible refine' go_abs ?_
  | with_reducible refine' go_max ?_
  | with_reducible refine' go_min ?_
  | with_reducible refine' go_int ?_
  | with_reducible refine' go_intB ?_
  | (with_reducible refine' go_eq rfl ?_)
  | (with_reducible refine' go_ne rfl ?_)
  | with_reducible refine' go_isN ?_
  | with_reducible refine' go_notN ?_
  | with_reducible refine' go_if ?_
  | with_reducible refine' go_sub ?_
  | with_reducible refine' go_par ?_
  | with_reducible refine' go_sl ?_
  | with_reducible refine' go_part ?_
  | with_reducible refine' go_pint ?_
  | with_reducible refine' go_nopart ?_
  | ((with_reducible refine' go_lenL ?hh ?_); (case hh => walk_at "heap"))
  | ((with_reducible refine' go_lenT ?hh ?_); (case hh => walk_at "heap"))
  | ((with_reducible refine' go_lenS ?hh ?_); (case hh => assumption))
  | with_reducible refine' go_gcons ?_
  | with_reducible refine' go_gnil ?_
  | with_reducible refine' go_kw ?_
  | with_reducible refine' go_par2 ?_
  | with_reducible refine' go_next ?_
  | with_reducible refine' go_drop ?_
  | with_reducible refine' go_and ?_
  | with_reducible refine' go_or ?_
  | with_reducible refine' go_not ?_
  | with_reducible refine' go_B ?_
  | with_reducible refine' go_andV ?_
  | with_reducible refine' go_orV ?_
  | with_reducible refine' go_notV ?_
  | with_reducible refine' go_chain ?_
  | with_reducible refine' go_un ?_
  | with_reducible refine' go_U ?_
  | with_reducible refine' go_bm ?_
  | with_reducible refine' go_tup ?_
  | with_reducible refine' go_lst ?_
  | with_reducible refine' go_forR1 ?_
  | with_reducible refine' go_forR2 ?_
  | with_reducible refine' go_forL ?_
  | with_reducible refine' go_forT ?_
  | with_reducible refine' go_forE ?_
  | with_reducible refine' go_lcR1 ?_
  | with_reducible refine' go_lcL ?_
  | with_reducible refine' go_lcT ?_
  | ((with_reducible refine' go_tyL ?hh ?_); (case hh => walk_at "heap"))
  | ((with_reducible refine' go_new ?hz ?_); (case hz => exact Nat.le_of_ble_eq_true rfl))
  | (with_reducible refine' ⟨_, rfl, ?_⟩)
  ))
--MACEND
def rev2 {α : Type} : List α → List α
  | [a, b] => [b, a]
  | l => l
def spMixR : Sp := fun vs H Q _ => ∃ (x : V) (dial : Int) (ss : List Stg) (rate : Option Int), vs = [x, .int dial, .int (finOf dial ss)] ∧ Dq H x (radD ss rate) ∧ Rc dial ss rate ∧ finOf dial ss ≤ 400 ∧ ∀ H', Ex H H' → Q (.bl true) H'
section
variable {P : Program} {w : World} {K : PySem.W.Frag} {mg : Str → Option Value} {base : Heap} {CR CD CN CS : Addr}
abbrev s__law_mixed_right : Stmt := top 52
theorem sc__law_mixed_right : FnScope ["radio", "tuned", "top", "plain", "pitches", "kept", "wave", "due", "lap", "told"] ["radio", "tuned", "top"] (defScope s__law_mixed_right) := ⟨rfl, rfl, rfl, by decide +kernel, rfl, by decide +kernel, by decide +kernel⟩
theorem ok_law_mixed_right {f : Addr} {fd : FuncData} (F : Fun K "_law_mixed_right" "_law_mixed_right" s__law_mixed_right f fd) (m_range : mg "range" = none) (m_repr : mg "repr" = none)
    (h__law_tone : Has P w K mg base 2 "_law_tone" spToneL) (h__law_runs : Has P w K mg base 1 "_law_runs" spRuns)
    (h_mixed_slopes : HasX P w K mg base 6 "mixed_slopes" (spMixedE CR CD)) (h_mixed_slopes_kw : HasKX P w K mg base 6 "mixed_slopes" ["dial", "receiver"] rev2 rev2 (spMixedE CR CD)) : FnG P w K mg base CX0 7 f fd ["radio", "tuned", "top"] spMixR := by
  refine okG F sc__law_mixed_right (fun vs H Q E h => ?_) (fun cdv A outer s H vs Q E hgd hr h => ?_)
  · obtain ⟨x, dial, ss, rate, rfl, _⟩ := h
    rfl
  · obtain ⟨x, dial, ss, rate, rfl, hd, C, top, k⟩ := h
    refine ⟨_, PSs.nox ((pss_cons (ps_set (i := 3) sc__law_mixed_right.nd rfl (Or.inr rfl) (pe_tup (pa_cons (pe_ix ix_tup (pv 0) pe_int (fun _ _ => rfl)) (pa_cons pe_non pa_nil))))
  (pss_cons (ps_par (i := 4) (j := 5) (by rfl) sc__law_mixed_right.nd rfl rfl (by decide) rfl rfl (pa_cons (pe_lc (own := [("wave", 6)]) (g := gName 6) (by rfl) (sc__law_mixed_right).nd (pi_range1 (by rfl) m_range (pa_cons (pe_op op_add (pv 2) pe_int) pa_nil)) (blkOk_by (own := [("wave", 6)]) (N := ["radio", "tuned", "top", "plain", "pitches", "kept", "wave", "due", "lap", "told"]) (sc := defScope s__law_mixed_right) (by decide +kernel)) (fun _ _ _ _ _ => pg_name (i := 6) (sc__law_mixed_right).nd rfl (Or.inl rfl)) (fun _ _ _ _ _ => pts_nil) (fun _ _ _ _ _ => (pe_hs h__law_tone hr rfl (pa_cons (pv 3) (pa_cons (pv 1) (pa_cons (pv 6) pa_nil)))))) (pa_cons (pe_callB (call_repr hgd hr.units) rfl m_repr (by decide +kernel) (pa_cons (pv 0) pa_nil)) pa_nil)) (by rfl))
  (pss_cons (ps_set (i := 7) sc__law_mixed_right.nd rfl (Or.inl rfl) (pe_hs h__law_runs hr rfl (pa_cons (pv 4) pa_nil)))
  (pss_cons (ps_if (PW.pt (pw_and (pt_cmpR (op_neD hr.units) (pv 7) (pe_lst pa_nil) (nomark _)) (pw_and1 (pt_cmpR op_eq (pe_ix ix_tup (pe_ix ix_list (pv 7) (pe_un un_neg pe_int) (fun _ _ => rfl)) pe_int (fun _ _ => rfl)) (pv 2) (nomark _)))))
  (pss_one (ps_asg (pe_tup (pa_cons (pe_ix ix_tup (pe_ix ix_list (pv 7) (pe_un un_neg pe_int) (fun _ _ => rfl)) pe_int (fun _ _ => rfl)) (pa_cons pe_non (pa_cons (pe_ix ix_tup (pe_ix ix_list (pv 7) (pe_un un_neg pe_int) (fun _ _ => rfl)) pe_int (fun _ _ => rfl)) (pa_cons (pe_ix ix_tup (pe_ix ix_list (pv 7) (pe_un un_neg pe_int) (fun _ _ => rfl)) pe_int (fun _ _ => rfl)) pa_nil))))) (pg_sub (pv 7) (pe_un un_neg pe_int) set_list)))
  pss_nil)
  (pss_cons (ps_for PassesOwn.never rfl (pi_range1 (by rfl) m_range (pa_cons pe_int pa_nil)) (pg_name (i := 8) sc__law_mixed_right.nd rfl (Or.inl rfl))
  (pss_cons (ps_set (i := 9) sc__law_mixed_right.nd rfl (Or.inl rfl) (pe_kwX h_mixed_slopes_kw hr rfl (pk_cons (pv 1) (pk_cons (pv 0) pk_nil))))
  (pss_cons (ps_if (PW.pt (pw_or (pt_cmpR op_ne (pe_callB (call_repr hgd hr.units) rfl m_repr (by decide +kernel) (pa_cons (pv 9) pa_nil)) (pe_callB (call_repr hgd hr.units) rfl m_repr (by decide +kernel) (pa_cons (pv 7) pa_nil)) (nomark _)) (pw_or1 (pt_cmpR op_ne (pe_callB (call_repr hgd hr.units) rfl m_repr (by decide +kernel) (pa_cons (pv 0) pa_nil)) (pv 5) (nomark _)))))
  (pss_one (ps_ret pe_bl))
  pss_nil)
  (pss_one (ps_expr (pe_bm PySem.F.plainAttrs_list PySem.F.slot_list_append PySem.F.type_list_append mt_append (pv 9) (pa_cons pe_non pa_nil)))))))
  (pss_one (ps_ret (pe_cmpR op_eq (pe_callB (call_repr hgd hr.units) rfl m_repr (by decide +kernel) (pa_cons (pe_hs0X h_mixed_slopes hr rfl (pa_cons (pv 0) (pa_cons (pv 1) pa_nil))) pa_nil)) (pe_callB (call_repr hgd hr.units) rfl m_repr (by decide +kernel) (pa_cons (pv 7) pa_nil)) (nomark _)))))))))), ?_⟩
    have frad := fine_rc C
    have e3 := end_ge dial ss
    obtain ⟨a, xs, rfl, ha, hda⟩ := hd.tupleAt
    obtain ⟨v1, v2, d1, d2, rfl, ed, hv1, hv2⟩ := dqa2 hda rfl
    obtain ⟨rfl, rfl⟩ : PyData.list (ss.map Stg.d) = d1 ∧ rateD rate = d2 := by simpa using ed
    walk_at "rd"
    intro pp hpp
    walk_at "rd"
    have x1 := Ex.new (o := HO.tup [v1, V.non]) hpp
    have hp1 : upd H pp (.tup [v1, .non]) pp = some (.tup [v1, .non]) := upd_same
    have dpp : Dq (upd H pp (.tup [v1, .non])) (.ref pp) (radD ss none) := .tup (.inl hp1) (.cons (hv1.ex x1) (.cons .non .nil))
    have dx1 := hd.ex x1
    revert x1 hp1 dpp dx1
    show Ex H (upd H pp (.tup [v1, .non])) → _ → _ → _ → _ ∧ _ ∧ lcR _ _ _ _ _ _ _ (upd H pp (.tup [v1, .non])) _
    generalize upd H pp (.tup [v1, .non]) = H1
    intro x1 hp1 dpp dx1
    obtain ⟨m, hm⟩ : ∃ m : Nat, finOf dial ss = m := ⟨(finOf dial ss).toNat, by omega⟩
    have hmm : (finOf dial ss + 1).toNat = m + 1 := by omega
    refine ⟨by omega, by omega, ?_⟩
    rw [hmm]
    refine run_lcR (fun D i G => G D = some (.lst ((List.range i).map fun i => optV (toneF dial ss none (i : Nat)))) ∧ Ex H1 G ∧ H1 D = none) ?_ ?_ ?_
    · exact fun D hD => ⟨upd_same, Ex.new hD, hD⟩
    · rintro D i G hi ⟨hD, e, hfr⟩
      walk_at "rd"
      refine ⟨rfl, go_yes (iteT ?_)⟩
      walk_at "rd"
      refine ⟨.ref pp, dial, 0 + (i : Int), _, ss, none, rfl, dpp.ex e, C.plain.R, fun H2 e2 => ?_⟩
      refine ⟨_, e2 _ _ hD, ?_, ?_, Ex.mut (e.trans e2) hfr, hfr⟩
      · rw [List.length_map, List.length_range]
        exact Nat.lt_of_lt_of_le (show i < 1000 by omega) (by decide)
      · rw [upd_same, List.range_succ, List.map_append, Int.zero_add]
        rfl
    rintro D G1 hDn ⟨hD, e1, _⟩
    walk_at "rd"
    refine go_repr (dx1.ex e1) frad (by decide) (by decide) ?_
    refine Exists.intro _ (Exists.intro _ (And.intro rfl ?_))
    dsimp only
    with_reducible refine' go_seq ?_
    with_reducible refine' go_asg ?_
    walk_at "rd"
    have P := C.plain.passOk
    refine ⟨D, toneF dial ss none, m, rfl, hD, by omega, fun y y0 ym z => ?_, fun dp L G2 hdp e2 RL hL => ?_⟩
    · obtain ⟨s, hs, h1, h2⟩ := mixed_has P (show stepF (mixF dial ss) y ≠ 0 from z)
      exact ⟨s, mixed_isl P hs, h1, h2⟩
    have eL : L = slopesOf dial ss := run_all C (by rw [hm]; exact RL)
    subst eL
    rw [← hm] at hL
    obtain ⟨ys, hy, hT⟩ := hL
    with_reducible refine' go_name ?_
    have E2 := e1.trans e2
    with_reducible refine' cut_s (fun σ' G3 => σ' = [some (.ref a), some (.int dial), some (.int (finOf dial ss)), some (.ref pp), some (.ref D), some (.str (radD ss rate).shown), none, some (.ref dp), none, none] ∧ Ex H1 G3 ∧ Lx G3 dp (slopesOf dial ss)) ?h1 ?h2
    case h1 =>
      intro D' _ _ _ q
      have dT : Dq G2 (.ref dp) (.list (((slopesOf dial ss).map (trunc (finOf dial ss))).map sxD)) := .lst (.inl hy) hT.dqa
      walk_at "rd"
      intro p5 hp5
      have x5 := Ex.new (o := HO.lst []) hp5
      refine go_neD (dT.ex x5) (.lst (.inl upd_same) .nil) (shaped_sxs _) (by decide +kernel) ?_
      rw [sxs_nil]
      have hy5 := x5 _ _ hy
      have hT5 := hT.ex x5
      rcases run_due C with ⟨eS, cl⟩ | ⟨M, t, eS, th, eT⟩
      · rw [eS] at hT5 ⊢
        have fin := q _ _ ⟨rfl, E2.trans x5, ys, hy5, hT5⟩
        rcases List.eq_nil_or_concat (slopesOf dial ss) with e | ⟨M, t, e⟩
        · rw [e]
          walk_at "rd"
          refine iteF (iteF ?_)
          walk_at "rd"
          exact fin
        · rw [List.concat_eq_append] at e
          obtain ⟨g, hg, gl⟩ := cl t (by rw [e]; simp)
          have hT6 := hT5
          rw [e] at hT6
          obtain ⟨zs, v, rfl, _, b, rfl, hb⟩ := hT6.split
          have hb' : upd G2 p5 (.lst []) b = some (.tup [.int t.lo, optV t.hi, .int t.num, .int t.way]) := hb
          rw [hg] at hb'
          have hb2 : upd G2 p5 (.lst []) b = some (.tup [.int t.lo, .int g, .int t.num, .int t.way]) := hb'
          clear hb hb'
          rw [show (slopesOf dial ss).isEmpty = false by rw [e]; simp]
          revert fin hy5 hb2
          generalize upd G2 p5 (.lst []) = G3
          intro fin hy5 hb2
          walk_at "rd"
          refine iteT ?_
          walk_at "rd"
          refine go_ixL (.inl hy5) atI_end ?_
          walk_at "rd"
          refine ite2 (fun c => absurd (of_decide_eq_true c) (by simp; omega)) (fun _ => ?_)
          walk_at "rd"
          exact fin
      · rw [eT] at hT5 ⊢
        obtain ⟨zs, v, rfl, hT0, b, rfl, hb⟩ := hT5.split
        have hb2 : upd G2 p5 (.lst []) b = some (.tup [.int t.lo, .int (finOf dial ss), .int t.num, .int t.way]) := hb
        clear hb
        rw [show (M ++ [Sx.mk t.lo (some (finOf dial ss)) t.num t.way]).isEmpty = false by simp]
        have E3 := E2.trans x5
        have dp1 : H1 dp = none := Evl.fresh_back e1 hdp
        clear hT5
        clear dT
        generalize upd G2 p5 (.lst []) = G3 at *
        walk_at "rd"
        refine iteT ?_
        walk_at "rd"
        refine go_ixL (.inl hy5) atI_end ?_
        walk_at "rd"
        refine ite2 (fun _ => ?_) (fun c => absurd (by simp) c)
        walk_at "rd"
        refine go_ixL (.inl hy5) atI_end ?_
        walk_at "rd"
        refine go_ixL (.inl hy5) atI_end ?_
        walk_at "rd"
        refine go_ixL (.inl hy5) atI_end ?_
        walk_at "rd"
        intro p2 hp2
        have x2 := Ex.new (o := HO.tup [V.int t.lo, .non, .int t.num, .int t.way]) hp2
        walk_at "rd"
        refine go_setL (x2 _ _ hy5) (ixN_end (by simp)) ?_
        rw [show (zs ++ [V.ref b]).set ((zs ++ [V.ref b]).length - 1) (V.ref p2) = zs ++ [V.ref p2] by
          rw [List.length_append, List.length_singleton, Nat.add_sub_cancel, List.set_append_right _ _ (Nat.le_refl _), Nat.sub_self]
          rfl]
        have pn : p2 ≠ dp := fun e => by rw [e, hy5] at hp2; cases hp2
        refine q _ _ ⟨rfl, Ex.mut (E3.trans x2) dp1, zs ++ [.ref p2], upd_same, ?_⟩
        rw [eS]
        refine ((hT0.ex x2).mut (x2 _ _ hy5)).snoc ⟨p2, rfl, ?_⟩
        rw [upd_ne pn, upd_same]
        show _ = some (HO.tup [V.int t.lo, optV t.hi, .int t.num, .int t.way])
        rw [th]
        rfl
    case h2 =>
      rintro σ G3 ⟨rfl, e4, ws, hw, hTw⟩
      have sm := small_slopes C top
      have fS : Fine 11520 2 (.list ((slopesOf dial ss).map sxD)) := fine_sxsS sm C.gd.len
      walk_at "rd"
      refine ⟨by decide, by decide, ?_⟩
      refine run_forR (fun i σ G => ∃ v8 v9 : Option V, σ = [some (.ref a), some (.int dial), some (.int (finOf dial ss)), some (.ref pp), some (.ref D), some (.str (radD ss rate).shown), none, some (.ref dp), v8, v9] ∧ Ex G3 G) ?_ ?_ ?_
      · exact ⟨_, _, rfl, Ex.refl _⟩
      · rintro i σ G hi ⟨v8, v9, rfl, e5⟩
        walk_at "rd"
        refine ⟨rfl, go_mixed (dx1.ex (e4.trans e5)) C fun q2 G5 hq2 e6 hL2 => ?_⟩
        obtain ⟨us, hu, hTu⟩ := hL2
        have e56 := e5.trans e6
        walk_at "rd"
        refine go_repr (.lst (.inl hu) hTu.dqa) fS (by decide) (by decide) ?_
        walk_at "rd"
        refine go_repr (.lst (.inl (e56 _ _ hw)) (hTw.ex e56).dqa) fS (by decide) (by decide) ?_
        walk_at "rd"
        refine iteNS rfl ?_
        walk_at "rd"
        refine go_repr (dx1.ex (e4.trans e56)) frad (by decide) (by decide) ?_
        walk_at "rd"
        refine iteNS rfl ?_
        walk_at "rd"
        refine go_app hu ?_ ?_
        · rw [hTu.len]
          exact Nat.lt_of_le_of_lt C.gd.len (by decide)
        walk_at "rd"
        exact ⟨_, _, rfl, Ex.mut e56 (Evl.fresh_back e5 hq2)⟩
      · rintro σ G ⟨v8, v9, rfl, e5⟩
        walk_at "rd"
        refine go_mixed (dx1.ex (e4.trans e5)) C fun q2 G5 hq2 e6 hL2 => ?_
        obtain ⟨us, hu, hTu⟩ := hL2
        walk_at "rd"
        refine go_repr (.lst (.inl hu) hTu.dqa) fS (by decide) (by decide) ?_
        walk_at "rd"
        refine go_repr (.lst (.inl ((e5.trans e6) _ _ hw)) (hTw.ex (e5.trans e6)).dqa) fS (by decide) (by decide) ?_
        walk_at "rd"
        rw [decide_eq_true rfl]
        exact k _ (x1.trans ((e4.trans e5).trans e6))
end
end Kx

set_option Elab.async false
set_option linter.all false
set_option maxRecDepth 100000
set_option maxHeartbeats 4000000
namespace Kx
open PySem PySem.Spec PyProof.Rows L2 HX
/-! ### the program's slopes, and those found signal by signal -/
theorem nthS_plain : ∀ (S : List Sx) (i : Nat), nthS none S (i : Int) = S[i]?
  | [], _ => rfl
  | s :: S, 0 => rfl
  | s :: S, i + 1 => by
    rw [nthS]
    show (if ((i + 1 : Nat) : Int) < 1 then _ else nthS none S (((i + 1 : Nat) : Int) - 1)) = _
    rw [if_neg (by omega), show ((i + 1 : Nat) : Int) - 1 = (i : Nat) by omega, nthS_plain S i]
    rfl
section
variable {dial k : Int} {ss : List Stg} {rate : Option Int} {L : List Sx}
theorem run_nth (C : Rc dial ss rate) (R : RunAt (toneF dial ss rate) k L) (k1 : 1 ≤ k) (kb : k.natAbs < 2 ^ 1000) :
    (L.length : Int) = countBegun rate (k - 1) (slopesOf dial ss) ∧ ∀ i, i < L.length → nthS rate (slopesOf dial ss) (i : Nat) = L[i]? := by
  have G := C.gd
  have P := C.passOk
  have up : (2 : Nat) ^ 1000 < 2 ^ 1990 := Nat.pow_lt_pow_right (by decide) (by decide)
  have up2 : (2 : Nat) ^ 1000 < 2 ^ 2500 := Nat.pow_lt_pow_right (by decide) (by decide)
  have k0 : 0 ≤ k - 1 := by omega
  have kb1 : (k - 1).natAbs < 2 ^ 1990 := Nat.lt_of_le_of_lt (show (k - 1).natAbs ≤ k.natAbs by omega) (Nat.lt_trans kb up)
  obtain ⟨c0, _⟩ := G.cnt k0 kb1
  have cl := G.le k0 kb1
  obtain ⟨n, hn⟩ : ∃ n : Nat, countBegun rate (k - 1) (slopesOf dial ss) = n := ⟨_, (Int.toNat_of_nonneg c0).symm⟩
  have nb : ∀ i : Nat, i < n → ((i : Nat) : Int).natAbs ≤ 2 ^ 2500 := fun i hi => by
    refine Nat.le_trans (show ((i : Nat) : Int).natAbs ≤ k.natAbs by omega) (Nat.le_of_lt (Nat.lt_trans kb up2))
  have ex : ∀ i : Nat, i < n → nthS rate (slopesOf dial ss) i = some ((nthS rate (slopesOf dial ss) i).getD ⟨0, none, 0, 1⟩) := fun i hi => by
    obtain ⟨t, ht⟩ := G.some_ (w := k - 1) (i := (i : Nat)) (by omega) (by omega)
    rw [ht]
    rfl
  have e : L = (List.range n).map fun i : Nat => (nthS rate (slopesOf dial ss) i).getD ⟨0, none, 0, 1⟩ := by
    refine asc_ext R.asc ?_ fun t => ⟨fun ht => ?_, fun ht => ?_⟩
    · rw [List.pairwise_map]
      refine (List.Pairwise.imp_of_mem ?_) (List.pairwise_lt_range (n := n))
      intro i j hi hj ij
      rw [List.mem_range] at hi hj
      exact G.strict (ex i hi) (ex j hj) (by omega) (by omega) (nb j hj)
    · obtain ⟨T, tk⟩ := R.sl t ht
      have z : stepF (toneF dial ss rate) t.lo ≠ 0 := by
        rw [T.step T.first.1 T.first.2]
        exact wy_ne T.w
      have tb : t.lo.natAbs < 2 ^ 1990 := Nat.lt_of_le_of_lt (show t.lo.natAbs ≤ k.natAbs by have := T.lo; omega) (Nat.lt_trans kb up)
      obtain ⟨i, u, i0, ic, hu, h1, h2⟩ := nth_has P G tb z
      have il := G.le T.lo tb
      have ib : i.natAbs ≤ 2 ^ 2500 := Nat.le_trans (show i.natAbs ≤ k.natAbs by omega) (Nat.le_of_lt (Nat.lt_trans kb up2))
      have eu : t = u := T.uniq2 (nth_isl P G i0 ib hu) T.first.1 T.first.2 h1 h2
      subst eu
      have := (G.key hu i0 ib k0 kb1).mp (by omega)
      obtain ⟨m, rfl⟩ : ∃ m : Nat, i = m := ⟨i.toNat, by omega⟩
      exact List.mem_map.mpr ⟨m, List.mem_range.mpr (by omega), by rw [hu]; rfl⟩
    · obtain ⟨i, hi, rfl⟩ := List.mem_map.mp ht
      rw [List.mem_range] at hi
      have := (G.key (ex i hi) (by omega) (nb i hi) k0 kb1).mpr (by omega)
      exact R.all _ (nth_isl P G (by omega) (nb i hi) (ex i hi)) (by omega)
  have len : L.length = n := by rw [e, List.length_map, List.length_range]
  refine ⟨by rw [len, hn], fun i hi => ?_⟩
  rw [len] at hi
  rw [e, List.getElem?_map, List.getElem?_range hi, ex i hi]
  rfl
theorem RunAt.cut {f : Int → Option Int} {x : Int} (R : RunAt f k L) (h : x < k) : RunAt f (x + 1) (L.filter fun t => decide (t.lo ≤ x)) := by
  refine ⟨fun t ht => ?_, R.asc.filter _, fun t T l => ?_⟩
  · obtain ⟨h1, h2⟩ := List.mem_filter.mp ht
    exact ⟨(R.sl t h1).1, by have := of_decide_eq_true h2; omega⟩
  · exact List.mem_filter.mpr ⟨R.all t T (by omega), decide_eq_true (by omega)⟩
theorem run_count (C : Rc dial ss rate) (R : RunAt (toneF dial ss rate) k L) (kb : k.natAbs < 2 ^ 1000) {x : Int} (x0 : 0 ≤ x) (xk : x < k) : countBegun rate x (slopesOf dial ss) = ((L.filter fun t => decide (t.lo ≤ x)).length : Int) := by
  have := (run_nth C (R.cut xk) (by omega) (Nat.lt_of_le_of_lt (show (x + 1).natAbs ≤ k.natAbs by omega) kb)).1
  rw [Int.add_sub_cancel] at this
  exact this.symm
/-- the slopes at a signal -/
theorem at_mem (C : Rc dial ss rate) {x : Int} (x0 : 0 ≤ x) (xb : x.natAbs < 2 ^ 1000) (t : Sx) : t ∈ slopesAtL rate (slopesOf dial ss) x ↔ IsSl (toneF dial ss rate) t ∧ inS t x := by
  have up : (2 : Nat) ^ 1000 < 2 ^ 1990 := Nat.pow_lt_pow_right (by decide) (by decide)
  have parts : ∀ {t : Sx}, IsSl (toneF dial ss rate) t → inS t x → (inS t (x + 1) ∧ stepF (toneF dial ss rate) x = t.way) ∨ (inS t (x - 1) ∧ stepF (toneF dial ss rate) (x - 1) = t.way) := fun {t} T i => by
    by_cases z : inS t (x + 1)
    · exact .inl ⟨z, T.step i z⟩
    · right
      have : ∃ g, t.hi = some g ∧ g ≤ x := by
        cases hh : t.hi with
        | none => exact absurd ⟨by have := i.1; omega, fun g e => by rw [hh] at e; cases e⟩ z
        | some g =>
          refine ⟨g, rfl, ?_⟩
          by_cases l : g ≤ x
          · exact l
          · exact absurd ⟨by have := i.1; omega, fun g' e => by rw [hh] at e; cases e; omega⟩ z
      obtain ⟨g, hg, gl⟩ := this
      have lt := T.lt g hg
      have gx := i.2 g hg
      have i1 : inS t (x - 1) := ⟨by omega, fun g' e => by rw [hg] at e; cases e; omega⟩
      exact ⟨i1, T.step i1 (by rw [Int.sub_add_cancel]; exact i)⟩
  have right : ∀ {u : Sx}, IsSl (toneF dial ss rate) u → inS u x → stepF (toneF dial ss rate) x = u.way → inS u (x + 1) := fun {u} U i e => by
    refine ⟨by have := i.1; omega, fun g hg => ?_⟩
    have := i.2 g hg
    by_cases z : x = g
    · subst z
      exact absurd e (U.right x hg)
    · omega
  have left : ∀ {u : Sx}, IsSl (toneF dial ss rate) u → inS u x → stepF (toneF dial ss rate) (x - 1) = u.way → inS u (x - 1) := fun {u} U i e => by
    refine ⟨?_, fun g hg => by have := i.2 g hg; omega⟩
    have := i.1
    by_cases z : u.lo = x
    · rw [← z] at e
      exact absurd e U.left
    · omega
  have same1 : ∀ {t u : Sx}, IsSl (toneF dial ss rate) t → IsSl (toneF dial ss rate) u → inS t x → inS u x → inS t (x + 1) → inS u (x + 1) → t = u := fun T U a b c d => T.uniq2 U a c b d
  have same2 : ∀ {t u : Sx}, IsSl (toneF dial ss rate) t → IsSl (toneF dial ss rate) u → inS t x → inS u x → inS t (x - 1) → inS u (x - 1) → t = u := fun T U a b c d => T.uniq2 U c (by rw [Int.sub_add_cancel]; exact a) d (by rw [Int.sub_add_cancel]; exact b)
  rcases slopesAt_spec C.passOk C.gd x0 (Nat.lt_trans xb up) with ⟨eL, s1, s2⟩ | ⟨u, eL, U, iu, st, _⟩ | ⟨v, u, eL, V, U, vh, ul, s1, s2, _, _, _⟩
  · rw [eL]
    refine ⟨(fun h => nomatch h), fun ⟨T, i⟩ => ?_⟩
    rcases parts T i with ⟨_, e⟩ | ⟨_, e⟩
    · rw [s2] at e
      exact absurd e.symm (wy_ne T.w)
    · rw [s1] at e
      exact absurd e.symm (wy_ne T.w)
  · rw [eL, List.mem_singleton]
    refine ⟨fun e => by rw [e]; exact ⟨U, iu⟩, fun ⟨T, i⟩ => ?_⟩
    rcases parts T i with ⟨i1, e⟩ | ⟨i1, e⟩
    · rcases st with ⟨a, b⟩ | ⟨a, b⟩ | ⟨a, b⟩
      · rw [b] at e
        exact absurd e.symm (wy_ne T.w)
      · exact same1 T U i iu i1 (right U iu b)
      · exact same1 T U i iu i1 (right U iu b)
    · rcases st with ⟨a, b⟩ | ⟨a, b⟩ | ⟨a, b⟩
      · exact same2 T U i iu i1 (left U iu a)
      · rw [a] at e
        exact absurd e.symm (wy_ne T.w)
      · exact same2 T U i iu i1 (left U iu a)
  · have iv : inS v x := ⟨Int.le_of_lt (V.lt x vh), fun g e => by rw [vh] at e; cases e; exact Int.le_refl _⟩
    have iu : inS u x := by rw [← ul]; exact U.first.1
    rw [eL, List.mem_cons, List.mem_singleton]
    refine ⟨fun e => ?_, fun ⟨T, i⟩ => ?_⟩
    · rcases e with e | e <;> rw [e]
      · exact ⟨V, iv⟩
      · exact ⟨U, iu⟩
    · rcases parts T i with ⟨i1, e⟩ | ⟨i1, e⟩
      · exact .inr (same1 T U i iu i1 (right U iu s2))
      · exact .inl (same2 T V i iv i1 (left V iv s1))
theorem at_asc (C : Rc dial ss rate) {x : Int} (x0 : 0 ≤ x) (xb : x.natAbs < 2 ^ 1000) : (slopesAtL rate (slopesOf dial ss) x).Pairwise (fun s t => s.lo < t.lo) ∧ (slopesAtL rate (slopesOf dial ss) x).length ≤ 2 := by
  have up : (2 : Nat) ^ 1000 < 2 ^ 1990 := Nat.pow_lt_pow_right (by decide) (by decide)
  rcases slopesAt_spec C.passOk C.gd x0 (Nat.lt_trans xb up) with ⟨eL, _⟩ | ⟨u, eL, _⟩ | ⟨v, u, eL, V, U, vh, ul, _⟩ <;> rw [eL]
  · exact ⟨.nil, by decide⟩
  · exact ⟨List.pairwise_singleton _ _, by simp⟩
  · refine ⟨List.pairwise_cons.mpr ⟨fun w hw => ?_, List.pairwise_singleton _ _⟩, by simp⟩
    rw [List.mem_singleton.mp hw, ul]
    exact V.lt x vh
def atB (x : Int) (t : Sx) : Bool := decide (t.lo ≤ x) && (match t.hi with | none => true | some g => decide (x ≤ g))
theorem atB_iff {x : Int} {t : Sx} : atB x t = true ↔ inS t x := by
  unfold atB inS
  cases t.hi with
  | none => simp
  | some g => simp
theorem run_at (C : Rc dial ss rate) (R : RunAt (toneF dial ss rate) k L) (kb : k.natAbs < 2 ^ 1000) {x : Int} (x0 : 0 ≤ x) (xk : x < k) : slopesAtL rate (slopesOf dial ss) x = L.filter (atB x) := by
  have xb : x.natAbs < 2 ^ 1000 := Nat.lt_of_le_of_lt (show x.natAbs ≤ k.natAbs by omega) kb
  refine asc_ext (at_asc C x0 xb).1 (R.asc.filter _) fun t => ?_
  rw [at_mem C x0 xb, List.mem_filter, atB_iff]
  exact ⟨fun ⟨T, i⟩ => ⟨R.all t T (by have := i.1; omega), i⟩, fun ⟨h, i⟩ => ⟨(R.sl t h).1, i⟩⟩
/-- without a sampler all slopes are at hand -/
theorem run_plain (C : Rc dial ss none) (h : finOf dial ss ≤ k) : RunAt (toneF dial ss none) k (slopesOf dial ss) :=
  ⟨fun t ht => ⟨(mixed_iff C).mp ht, by have := (slopes_fin C t ht).1; unfold finOf at h; omega⟩, asc_slopes C, fun t T _ => (mixed_iff C).mpr T⟩
end
end Kx

set_option Elab.async false
set_option linter.all false
set_option maxRecDepth 100000
set_option maxHeartbeats 4000000

namespace Kx
open PySem PySem.Spec PyProof.Rows L2 HX
open Evl (Ex)
local macro_rules | `(tactic| walk_at "side") => `(tactic| first | assumption | ((try dsimp only); first | assumption | decide +kernel | omega | exact ⟨by decide, by decide⟩ | (left; decide) | (left; omega) | (refine Or.inl ⟨?_, ?_⟩ <;> omega) | (refine Or.inr ⟨?_, ?_⟩ <;> omega)))
local macro_rules | `(tactic| walk_at "heap") => `(tactic| first | assumption | exact upd_same | exact Or.inl (by assumption) | exact Or.inl upd_same)
local macro_rules | `(tactic| walk_at "item") => `(tactic| first | exact rfl | exact atI_nat (j := 0) rfl | exact atI_nat (j := 1) rfl | exact atI_nat (j := 2) rfl | assumption)
local macro_rules | `(tactic| walk_at "rd") => `(tactic| repeat (first
  | ((with_reducible refine' go_var ?hv ?_); (case hv => exact rfl))
  | with_reducible refine' go_c ?_
  | with_reducible refine' go_op ?_
  | with_reducible refine' go_seq ?_
  | with_reducible refine' go_asg ?_
  | with_reducible refine' go_name ?_
  | with_reducible refine' go_cons ?_
  | with_reducible refine' go_nil ?_
  | with_reducible refine' go_cb ?_
  | with_reducible refine' go_call ?_
  | with_reducible refine' go_ifS ?_
  | with_reducible refine' go_test ?_
  | with_reducible refine' go_bl ?_
  | with_reducible refine' go_ret ?_
  | with_reducible refine' go_I0 ?_
  | ((with_reducible refine' go_I ?cc ?_); (case cc => walk_at "side"))
  | ((with_reducible refine' go_ixL ?hh ?hk ?_); (case hh => walk_at "heap"); (case hk => walk_at "item"))
  | ((with_reducible refine' go_ixT ?hh ?hk ?_); (case hh => walk_at "heap"); (case hk => walk_at "item"))
  | ((with_reducible refine' go_lenL ?hh ?_); (case hh => walk_at "heap"))
  | ((with_reducible refine' go_lenT ?hh ?_); (case hh => walk_at "heap"))
  | ((with_reducible refine' go_setL ?hh ?hk ?_); (case hh => walk_at "heap"); (case hk => walk_at "item"))
  | with_reducible refine' go_abs ?_
  | with_reducible refine' go_max ?_
  | with_reducible refine' go_min ?_
  | with_reducible refine' go_int ?_
  | with_reducible refine' go_intB ?_
  | (with_reducible refine' go_eq rfl ?_)
  | (with_reducible refine' go_ne rfl ?_)
  | with_reducible refine' go_isN ?_
  | with_reducible refine' go_notN ?_
  | with_reducible refine' go_if ?_
  | with_reducible refine' go_sub ?_
  | with_reducible refine' go_par ?_
  | with_reducible refine' go_sl ?_
  | with_reducible refine' go_part ?_
  | with_reducible refine' go_pint ?_
  | with_reducible refine' go_nopart ?_
  | ((with_reducible refine' go_lenL ?hh ?_); (case hh => walk_at "heap"))
  | ((with_reducible refine' go_lenT ?hh ?_); (case hh => walk_at "heap"))
  | ((with_reducible refine' go_lenS ?hh ?_); (case hh => assumption))
  | with_reducible refine' go_gcons ?_
  | with_reducible refine' go_gnil ?_
  | with_reducible refine' go_kw ?_
  | with_reducible refine' go_par2 ?_
  | with_reducible refine' go_next ?_
  | with_reducible refine' go_drop ?_
  | with_reducible refine' go_and ?_
  | with_reducible refine' go_or ?_
  | with_reducible refine' go_not ?_
  | with_reducible refine' go_B ?_
  | with_reducible refine' go_andV ?_
  | with_reducible refine' go_orV ?_
  | with_reducible refine' go_notV ?_
  | with_reducible refine' go_chain ?_
  | with_reducible refine' go_un ?_
  | with_reducible refine' go_U ?_
  | with_reducible refine' go_bm ?_
  | with_reducible refine' go_tup ?_
  | with_reducible refine' go_lst ?_
  | with_reducible refine' go_forR1 ?_
  | with_reducible refine' go_forR2 ?_
  | with_reducible refine' go_forL ?_
  | with_reducible refine' go_forT ?_
  | with_reducible refine' go_forE ?_
  | with_reducible refine' go_lcR1 ?_
  | with_reducible refine' go_lcL ?_
  | with_reducible refine' go_lcT ?_
  | ((with_reducible refine' go_tyL ?hh ?_); (case hh => walk_at "heap"))
  | ((with_reducible refine' go_new ?hz ?_); (case hz => exact Nat.le_of_ble_eq_true rfl))
  | (with_reducible refine' ⟨_, rfl, ?_⟩)
  ))
--MACEND
theorem go_neT {K : PySem.W.Frag} {H : Hp} {Q : VK} {x y : V} {d e : PyData} (h1 : Dq H x d) (h2 : Dq H y e) (s1 : SeqAt.shaped d = true) (s2 : SeqAt.shaped e = true) (he : PyData.eqv d e = true) (q : Q (.bl false) H) : rNeD K x y H Q :=
  go_neD h1 h2 s1 s2 (by rw [he]; exact q)
theorem jx_mut {S : List Addr} {H G : Hp} {l : Addr} {o : HO} (x : Jx S H G) (hl : H l = none) : Jx S H (upd G l o) := fun b u e => by
  obtain ⟨h1, h2⟩ := hid_some e
  have := x b u e
  have hb : b ≠ l := fun z => by rw [z, hl] at h2; cases h2
  rw [hid_ne h1] at this
  rw [hid_ne h1, upd_ne hb]
  exact this
/-- a list of ints at p, each of them in [0, b) -/
def Ints (G : Hp) (p : Addr) (i : Nat) (b : Int) : Prop := ∃ zs : List Int, G p = some (.lst (zs.map V.int)) ∧ zs.length = i ∧ ∀ z ∈ zs, 0 ≤ z ∧ z < b
theorem Ints.snoc {G G' : Hp} {p : Addr} {i : Nat} {b u : Int} (h : Ints G p i b) (e : G' p = G p) (u0 : 0 ≤ u) (u1 : u < b) (hi : i < 100) : ∃ acc, G' p = some (.lst acc) ∧ acc.length < sizeLine ∧ Ints (upd G' p (.lst (acc ++ [.int u]))) p (i + 1) b := by
  obtain ⟨zs, h1, h2, h3⟩ := h
  refine ⟨zs.map V.int, e.trans h1, ?_, zs ++ [u], ?_, by simp [h2], fun z hz => ?_⟩
  · rw [List.length_map, h2]
    exact Nat.lt_of_lt_of_le hi (by decide)
  · rw [upd_same, List.map_append]
    rfl
  · rcases List.mem_append.mp hz with hz | hz
    · exact h3 z hz
    · rw [List.mem_singleton.mp hz]
      exact ⟨u0, u1⟩
def spPlain : Sp := fun vs H Q _ => ∃ (j : Addr) (n : Nat) (x : V) (dial top : Int) (ss : List Stg), vs = [.ref j, x, .int dial, .int top] ∧ JarAt n H j ∧ n < 2 ^ 40 ∧ Dq (hid [j] H) x (radD ss none) ∧ Rc dial ss none ∧ finOf dial ss ≤ 400 ∧ 1 ≤ top ∧ top ≤ 400 ∧ ∀ H', JarAt (n + 20) H' j → Jx [j] H H' → Q (.bl true) H'
section
variable {P : Program} {w : World} {K : PySem.W.Frag} {mg : Str → Option Value} {base : Heap} {CR CD CN CS : Addr}
abbrev s__law_plain_right : Stmt := top 54
theorem sc__law_plain_right : FnScope ["jar", "radio", "tuned", "top", "rows", "spot", "lap", "due", "wave", "row", "told"] ["jar", "radio", "tuned", "top"] (defScope s__law_plain_right) := ⟨rfl, rfl, rfl, by decide +kernel, rfl, by decide +kernel, by decide +kernel⟩
theorem ok_law_plain_right {f : Addr} {fd : FuncData} (F : Fun K "_law_plain_right" "_law_plain_right" s__law_plain_right f fd) (m_range : mg "range" = none) (m_repr : mg "repr" = none) (m_len : mg "len" = none)
    (h__law_pick : Has P w K mg base 1 "_law_pick" spPick) (h_mixed_slopes : HasX P w K mg base 6 "mixed_slopes" (spMixedE CR CD)) (h_nth_slope : HasX P w K mg base 7 "nth_slope" (spNthE CR CD CN)) (h_count_slopes : HasX P w K mg base 7 "count_slopes" (spCountE CR CD CN))
    (h_slopes_at : HasX P w K mg base 7 "slopes_at" (spAtE CR CD CS)) (h_slopes_at_kw : HasKX P w K mg base 7 "slopes_at" ["signal", "dial", "receiver"] rev3 rev3 (spAtE CR CD CS)) : FnG P w K mg base CX0 8 f fd ["jar", "radio", "tuned", "top"] spPlain := by
  refine okG F sc__law_plain_right (fun vs H Q E h => ?_) (fun cdv A outer s H vs Q E hgd hr h => ?_)
  · obtain ⟨j, n, x, dial, top, ss, rfl, _⟩ := h
    rfl
  · obtain ⟨j, n, x, dial, top, ss, rfl, hJ, hn, hdj, C, fin, t0, t1, k⟩ := h
    refine ⟨_, PSs.nox ((pss_cons (ps_set (i := 4) sc__law_plain_right.nd rfl (Or.inr rfl) (pe_hs0X h_mixed_slopes hr rfl (pa_cons (pv 1) (pa_cons (pv 2) pa_nil))))
  (pss_cons (ps_for PassesOwn.never rfl (pi_list (pe_op op_cat (pe_lst (pa_cons pe_int (pa_cons pe_int (pa_cons (pe_callB (show CallR _ _ (rLenQ K) from call_lenQ) rfl m_len PySem.boot_len (pa_cons (pv 4) pa_nil)) (pa_cons (pe_op op_add (pe_callB (show CallR _ _ (rLenQ K) from call_lenQ) rfl m_len PySem.boot_len (pa_cons (pv 4) pa_nil)) pe_int) pa_nil))))) (pe_lc (own := [("lap", 6)]) (g := gName 6) (by rfl) (sc__law_plain_right).nd (pi_range1 (by rfl) m_range (pa_cons pe_int pa_nil)) (blkOk_by (own := [("lap", 6)]) (N := ["jar", "radio", "tuned", "top", "rows", "spot", "lap", "due", "wave", "row", "told"]) (sc := defScope s__law_plain_right) (by decide +kernel)) (fun _ _ _ _ _ => pg_name (i := 6) (sc__law_plain_right).nd rfl (Or.inl rfl)) (fun _ _ _ _ _ => pts_nil) (fun _ _ _ _ _ => (pe_hs h__law_pick hr rfl (pa_cons (pv 0) (pa_cons (pe_op op_add (pe_callB (show CallR _ _ (rLenQ K) from call_lenQ) rfl m_len PySem.boot_len (pa_cons (pv 4) pa_nil)) pe_int) pa_nil))))))) (pg_name (i := 5) sc__law_plain_right.nd rfl (Or.inl rfl))
  (pss_cons (ps_set (i := 7) sc__law_plain_right.nd rfl (Or.inl rfl) (pe_ifExp (pt_cmpR op_lt (pv 5) (pe_callB (show CallR _ _ (rLenQ K) from call_lenQ) rfl m_len PySem.boot_len (pa_cons (pv 4) pa_nil)) (nomark _)) (pe_ix ix_list (pv 4) (pv 5) (fun _ _ => rfl)) pe_non))
  (pss_one (ps_if (pt_cmpR op_ne (pe_callB (call_repr hgd hr.units) rfl m_repr (by decide +kernel) (pa_cons (pe_hs0X h_nth_slope hr rfl (pa_cons (pv 1) (pa_cons (pv 2) (pa_cons (pv 5) pa_nil)))) pa_nil)) (pe_callB (call_repr hgd hr.units) rfl m_repr (by decide +kernel) (pa_cons (pv 7) pa_nil)) (nomark _))
  (pss_one (ps_ret pe_bl))
  pss_nil))))
  (pss_cons (ps_for PassesOwn.never rfl (pi_list (pe_op op_cat (pe_lst (pa_cons pe_int (pa_cons (pe_op op_powW pe_int pe_int) pa_nil))) (pe_lc (own := [("lap", 6)]) (g := gName 6) (by rfl) (sc__law_plain_right).nd (pi_range1 (by rfl) m_range (pa_cons pe_int pa_nil)) (blkOk_by (own := [("lap", 6)]) (N := ["jar", "radio", "tuned", "top", "rows", "spot", "lap", "due", "wave", "row", "told"]) (sc := defScope s__law_plain_right) (by decide +kernel)) (fun _ _ _ _ _ => pg_name (i := 6) (sc__law_plain_right).nd rfl (Or.inl rfl)) (fun _ _ _ _ _ => pts_nil) (fun _ _ _ _ _ => (pe_hs h__law_pick hr rfl (pa_cons (pv 0) (pa_cons (pv 3) pa_nil))))))) (pg_name (i := 8) sc__law_plain_right.nd rfl (Or.inr rfl))
  (pss_cons (ps_setLc (i := 7) (own := [("row", 9)]) (g := gName 9) (by rfl) sc__law_plain_right.nd rfl rfl (sw_true rfl rfl rfl (by decide +kernel)) (pi_list (pv 4)) (blkOk_by (own := [("row", 9)]) (N := ["jar", "radio", "tuned", "top", "rows", "spot", "lap", "due", "wave", "row", "told"]) (sc := defScope s__law_plain_right) (by decide +kernel)) (fun _ _ _ _ _ => pg_name (i := 9) (sc__law_plain_right).nd rfl (Or.inl rfl)) (fun _ _ _ _ _ => (pts_one (PW.pt (pw_and (pt_cmpR op_le (pe_ix (show IxR _ (rIxT K) from ix_tup) (pv 9) pe_int (fun _ _ => rfl)) (pv 8) (nomark _)) (pw_and1 (PW.pt (pw_or (pt_cmpR op_isN1 (pe_ix (show IxR _ (rIxT K) from ix_tup) (pv 9) pe_int (fun _ _ => rfl)) pe_non (nomark _)) (pw_or1 (pt_cmpR op_le (pv 8) (pe_ix (show IxR _ (rIxT K) from ix_tup) (pv 9) pe_int (fun _ _ => rfl)) (nomark _)))))))))) (fun _ _ _ _ _ => (pv 9)))
  (pss_cons (ps_set (i := 10) sc__law_plain_right.nd rfl (Or.inl rfl) (pe_kwX h_slopes_at_kw hr rfl (pk_cons (pv 8) (pk_cons (pv 2) (pk_cons (pv 1) pk_nil)))))
  (pss_cons (ps_if (pt_cmpR op_ne (pe_callB (call_repr hgd hr.units) rfl m_repr (by decide +kernel) (pa_cons (pv 10) pa_nil)) (pe_callB (call_repr hgd hr.units) rfl m_repr (by decide +kernel) (pa_cons (pv 7) pa_nil)) (nomark _))
  (pss_one (ps_ret pe_bl))
  pss_nil)
  (pss_cons (ps_if (pt_cmpR op_ne (pe_hs0X h_count_slopes hr rfl (pa_cons (pv 1) (pa_cons (pv 2) (pa_cons (pv 8) pa_nil)))) (pe_callB call_lenQ rfl m_len PySem.boot_len (pa_cons (pe_lc (own := [("row", 9)]) (g := gName 9) (by rfl) (sc__law_plain_right).nd (pi_list (pv 4)) (blkOk_by (own := [("row", 9)]) (N := ["jar", "radio", "tuned", "top", "rows", "spot", "lap", "due", "wave", "row", "told"]) (sc := defScope s__law_plain_right) (by decide +kernel)) (fun _ _ _ _ _ => pg_name (i := 9) (sc__law_plain_right).nd rfl (Or.inl rfl)) (fun _ _ _ _ _ => (pts_one (pt_cmpR op_le (pe_ix (show IxR _ (rIxT K) from ix_tup) (pv 9) pe_int (fun _ _ => rfl)) (pv 8) (nomark _)))) (fun _ _ _ _ _ => (pv 9))) pa_nil)) (nomark _))
  (pss_one (ps_ret pe_bl))
  pss_nil)
  (pss_cons (ps_expr (pe_bm PySem.F.plainAttrs_list PySem.F.slot_list_append PySem.F.type_list_append mt_append (pv 10) (pa_cons pe_non pa_nil)))
  (pss_one (ps_if (pt_cmpR (op_neD hr.units) (pe_hs0X h_slopes_at hr rfl (pa_cons (pv 1) (pa_cons (pv 2) (pa_cons (pv 8) pa_nil)))) (pv 7) (nomark _))
  (pss_one (ps_ret pe_bl))
  pss_nil))))))))
  (pss_one (ps_ret pe_bl)))))), ?_⟩
    have hd := hdj.ex hid_ex
    have sm := small_slopes C fin
    walk_at "rd"
    refine go_mixed hd C fun q G1 hq1 e1 hL => ?_
    obtain ⟨xs, hq, hT⟩ := hL
    have len : xs.length ≤ 256 := by rw [hT.len]; exact C.gd.len
    have J1 := jar_ex e1 hJ
    have qj : q ≠ j := fresh_ne hJ.obj.choose_spec hq1
    walk_at "rd"
    intro l1 hl1
    walk_at "rd"
    have J2 : JarAt n (upd G1 l1 (.lst ([0, 1, (xs.length : Int), xs.length + 1].map V.int))) j := J1.keep (upd_ne (fresh_ne J1.obj.choose_spec hl1).symm)
    have e2 : Ex G1 (upd G1 l1 (.lst ([0, 1, (xs.length : Int), xs.length + 1].map V.int))) := Ex.new hl1
    have h1l : upd G1 l1 (.lst ([0, 1, (xs.length : Int), xs.length + 1].map V.int)) l1 = some (.lst ([0, 1, (xs.length : Int), xs.length + 1].map V.int)) := upd_same
    have l1j : l1 ≠ j := fresh_ne J1.obj.choose_spec hl1
    revert J2 e2 h1l
    show _ → _ → _ → _ ∧ _ ∧ lcR _ _ _ _ _ _ _ (upd G1 l1 (.lst ([0, 1, (xs.length : Int), xs.length + 1].map V.int))) _
    generalize upd G1 l1 (.lst ([0, 1, (xs.length : Int), xs.length + 1].map V.int)) = G2
    intro J2 e2 h1l
    refine ⟨by decide, by decide, ?_⟩
    refine run_lcR (fun D i G => Ints G D i (xs.length + 1) ∧ JarAt (n + i) G j ∧ Jx [j] G2 G ∧ G2 D = none) ?_ ?_ ?_
    · exact fun D hD => ⟨⟨[], upd_same, rfl, fun _ h => nomatch h⟩, (J2.mono (by omega)).keep (upd_ne (fresh_ne J2.obj.choose_spec hD).symm), Jx.new hD, hD⟩
    · rintro D i G hi ⟨hI, JG, X, hfr⟩
      have hi4 : i < 4 := hi
      have Dj : D ≠ j := fresh_ne J2.obj.choose_spec hfr
      have qG : G q = some (.lst xs) := X.get (e2 _ _ hq) (nin1 qj)
      walk_at "rd"
      refine ⟨rfl, go_yes (iteT ?_)⟩
      walk_at "rd"
      refine pick_go JG (by omega) (by omega) (Int.lt_of_le_of_lt (show (xs.length : Int) + 1 ≤ 1000 by omega) (by decide +kernel)) fun u G3 u0 u1 J3 y3 => ?_
      obtain ⟨acc, a1, a2, a3⟩ := hI.snoc (G' := G3) (by obtain ⟨zs, z1, _⟩ := hI; rw [z1]; exact y3.get z1 (nin1 Dj)) u0 u1 (by omega)
      exact ⟨acc, a1, a2, a3, (J3.mono (by omega)).keep (upd_ne Dj.symm), jx_mut (X.tr y3) hfr, hfr⟩
    rintro D1 G3 hD1 ⟨⟨zs, hz1, hz2, hz3⟩, J3, X3, _⟩
    refine go_cat (X3.get h1l (nin1 l1j)) hz1 (by rw [List.length_map, List.length_map, hz2]; exact Nat.le_trans (show 4 + Int.toNat 4 ≤ 100 by decide) (by decide)) fun p3 hp3 => ?_
    have hws : ∀ z ∈ [0, 1, (xs.length : Int), xs.length + 1] ++ zs, 0 ≤ z ∧ z ≤ xs.length + 1 := fun z hz => by
      rcases List.mem_append.mp hz with hz | hz
      · simp only [List.mem_cons, List.not_mem_nil, or_false] at hz
        omega
      · have := hz3 z hz
        omega
    rw [← List.map_append]
    generalize [0, 1, (xs.length : Int), xs.length + 1] ++ zs = ws at hws
    have p3j : p3 ≠ j := fresh_ne J3.obj.choose_spec hp3
    have J4 : JarAt (n + 4) (upd G3 p3 (.lst (ws.map V.int))) j := J3.keep (upd_ne p3j.symm)
    have h4 : upd G3 p3 (.lst (ws.map V.int)) p3 = some (.lst (ws.map V.int)) := upd_same
    have X4 : Jx [j] G1 (upd G3 p3 (.lst (ws.map V.int))) := ((Jx.of e2).tr X3).tr (Jx.new hp3)
    revert J4 h4 X4
    generalize upd G3 p3 (.lst (ws.map V.int)) = G4
    intro J4 h4 X4
    have q4 : G4 q = some (.lst xs) := X4.get hq (nin1 qj)
    have tx : ∀ {G : Hp}, Jx [j] G1 G → Txs G xs (slopesOf dial ss) := fun {G} X => ⟨hT.len, fun i v hv => by
      obtain ⟨t, ht, a, e, ha⟩ := hT.get i v hv
      exact ⟨t, ht, a, e, X.get ha (nin1 (tup_ne J1 ha))⟩⟩
    have x1 : Jx [j] H G1 := Jx.of e1
    refine ⟨p3, rfl, ⟨_, .inl (.inl h4)⟩, ?_⟩
    refine run_forL (ws.map V.int) (fun i σ G => ∃ v5 v7 : Option V, σ = [some (.ref j), some x, some (.int dial), some (.int top), some (.ref q), v5, none, v7, none, none, none] ∧ Ex G4 G) ?_ ?_ ?_ ?_
    · exact ⟨_, _, rfl, Ex.refl _⟩
    · rintro i σ G _ ⟨v5, v7, rfl, e⟩
      exact .inl (.inl (e _ _ h4))
    · rintro i v σ G hv ⟨v5, v7, rfl, e⟩
      rw [List.getElem?_map] at hv
      obtain ⟨z, hz, rfl⟩ := Option.map_eq_some_iff.mp hv
      obtain ⟨z0, z1⟩ := hws z (List.mem_of_getElem? hz)
      have qG := e _ _ q4
      have XG := X4.tr (Jx.of e)
      have hdG := ((x1.tr XG).dq hdj).ex hid_ex
      have TG := tx XG
      obtain ⟨m, rfl⟩ : ∃ m : Nat, z = m := ⟨z.toNat, by omega⟩
      have mb : ((m : Nat) : Int).natAbs < 2 ^ 1990 := Nat.lt_of_le_of_lt (show ((m : Nat) : Int).natAbs ≤ 1000 by omega) (by decide +kernel)
      have fo : Fine 2404 1 (oxD (nthS none (slopesOf dial ss) (m : Nat))) := fine_ox fun t ht => C.lit (by omega) (Int.le_trans (show ((m : Nat) : Int) ≤ 1000 by omega) (by decide +kernel)) t ht
      walk_at "rd"
      refine ite2 (fun c => ?_) (fun c => ?_)
      · have lt : m < xs.length := by have := of_decide_eq_true c; omega
        walk_at "rd"
        refine go_ixL (.inl qG) (v := xs[m]) (atI_nat (List.getElem?_eq_getElem lt)) ?_
        obtain ⟨t, ht, tv⟩ := TG.get m xs[m] (List.getElem?_eq_getElem lt)
        walk_at "rd"
        refine go_nthO hdG C (by omega) mb fun v' G6 e6 ho => ?_
        rw [nthS_plain, ht] at ho fo
        walk_at "rd"
        refine go_repr ho.dq fo (by decide) (by decide) ?_
        walk_at "rd"
        refine go_repr (tv.ex e6).dq fo (by decide) (by decide) ?_
        walk_at "rd"
        refine iteNS rfl ?_
        walk_at "rd"
        exact ⟨_, _, rfl, e.trans e6⟩
      · have ge : xs.length ≤ m := by
          have : ¬ ((m : Nat) : Int) < (xs.length : Int) := fun z => c (decide_eq_true z)
          omega
        walk_at "rd"
        refine go_nthO hdG C (by omega) mb fun v' G6 e6 ho => ?_
        rw [nthS_plain, List.getElem?_eq_none (by rw [← hT.len]; exact ge)] at ho fo
        walk_at "rd"
        refine go_repr ho.dq fo (by decide) (by decide) ?_
        walk_at "rd"
        refine go_repr .non fo (by decide) (by decide) ?_
        walk_at "rd"
        refine iteNS rfl ?_
        walk_at "rd"
        exact ⟨_, _, rfl, e.trans e6⟩
    · rintro σ G ⟨v5, v7, rfl, e⟩
      have JG := jar_ex e J4
      have XG := X4.tr (Jx.of e)
      have qG := e _ _ q4
      have p39 : CPowW 10 39 := wide_pow (b := 4) (by decide) (by decide) (by decide)
      clear hws h4 J4 X4 q4 X3 hz1 hz2 hz3 h1l e2 J2
      walk_at "rd"
      intro l5 hl5
      have l5j : l5 ≠ j := fresh_ne JG.obj.choose_spec hl5
      have J5 : JarAt (n + 4) (upd G l5 (.lst ([0, 10 ^ 39].map V.int))) j := JG.keep (upd_ne l5j.symm)
      have X5 : Jx [j] G1 (upd G l5 (.lst ([0, 10 ^ 39].map V.int))) := XG.tr (Jx.new hl5)
      have h5 : upd G l5 (.lst ([0, 10 ^ 39].map V.int)) l5 = some (.lst ([0, 10 ^ 39].map V.int)) := upd_same
      revert J5 X5 h5
      show _ → _ → _ → tLc _ _ _ _ _ _ (upd G l5 (.lst ([0, 10 ^ 39].map V.int))) _
      generalize upd G l5 (.lst ([0, 10 ^ 39].map V.int)) = G5
      intro J5 X5 h5
      walk_at "rd"
      refine ⟨by decide, by decide, ?_⟩
      refine run_lcR (fun D i G => Ints G D i top ∧ JarAt (n + 4 + i) G j ∧ Jx [j] G5 G ∧ G5 D = none) ?_ ?_ ?_
      · exact fun D hD => ⟨⟨[], upd_same, rfl, fun _ h => nomatch h⟩, (J5.mono (by omega)).keep (upd_ne (fresh_ne J5.obj.choose_spec hD).symm), Jx.new hD, hD⟩
      · rintro D i G hi ⟨hI, JG, X, hfr⟩
        have hi6 : i < 6 := hi
        have Dj : D ≠ j := fresh_ne J5.obj.choose_spec hfr
        walk_at "rd"
        refine ⟨rfl, go_yes (iteT ?_)⟩
        walk_at "rd"
        refine pick_go JG (by omega) (by omega) (Int.lt_of_le_of_lt (show top ≤ 1000 by omega) (by decide +kernel)) fun u G3 u0 u1 J3 y3 => ?_
        obtain ⟨acc, a1, a2, a3⟩ := hI.snoc (G' := G3) (by obtain ⟨zs, z1, _⟩ := hI; rw [z1]; exact y3.get z1 (nin1 Dj)) u0 u1 (by omega)
        exact ⟨acc, a1, a2, a3, (J3.mono (by omega)).keep (upd_ne Dj.symm), jx_mut (X.tr y3) hfr, hfr⟩
      rintro D2 G6 hD2 ⟨⟨ys, hy1, hy2, hy3⟩, J6, X6, _⟩
      refine go_cat (X6.get h5 (nin1 l5j)) hy1 (by rw [List.length_map, List.length_map, hy2]; exact Nat.le_trans (show 2 + Int.toNat 6 ≤ 100 by decide) (by decide)) fun p7 hp7 => ?_
      have e39 : (10 : Int) ^ 39 = 1000000000000000000000000000000000000000 := by decide +kernel
      have hwv : ∀ z ∈ [0, (10 : Int) ^ 39] ++ ys, 0 ≤ z ∧ z ≤ 10 ^ 39 := fun z hz => by
        rw [e39] at hz ⊢
        rcases List.mem_append.mp hz with hz | hz
        · simp only [List.mem_cons, List.not_mem_nil, or_false] at hz
          omega
        · have := hy3 z hz
          omega
      rw [← List.map_append]
      generalize [0, (10 : Int) ^ 39] ++ ys = wv at hwv
      have p7j : p7 ≠ j := fresh_ne J6.obj.choose_spec hp7
      have J7 : JarAt (n + 10) (upd G6 p7 (.lst (wv.map V.int))) j := J6.keep (upd_ne p7j.symm)
      have h7 : upd G6 p7 (.lst (wv.map V.int)) p7 = some (.lst (wv.map V.int)) := upd_same
      have X7 : Jx [j] G1 (upd G6 p7 (.lst (wv.map V.int))) := (X5.tr X6).tr (Jx.new hp7)
      revert J7 h7 X7
      generalize upd G6 p7 (.lst (wv.map V.int)) = G7
      intro J7 h7 X7
      have q7 : G7 q = some (.lst xs) := X7.get hq (nin1 qj)
      clear XG qG hy1 X6 h5 J6 X5 J5 JG e
      have kb39 : ((10 : Int) ^ 39 + 1).natAbs < 2 ^ 1000 := by decide +kernel
      have RP : RunAt (toneF dial ss none) (10 ^ 39 + 1) (slopesOf dial ss) := run_plain C (by rw [e39]; omega)
      refine ⟨p7, rfl, ⟨_, .inl (.inl h7)⟩, ?_⟩
      refine run_forL (wv.map V.int) (fun i σ G => ∃ v5 v7 v8 v10 : Option V, σ = [some (.ref j), some x, some (.int dial), some (.int top), some (.ref q), v5, none, v7, v8, none, v10] ∧ Ex G7 G) ?_ ?_ ?_ ?_
      · exact ⟨_, _, _, _, rfl, Ex.refl _⟩
      · rintro i σ G _ ⟨v5, v7, v8, v10, rfl, e⟩
        exact .inl (.inl (e _ _ h7))
      · rintro i v σ G hv ⟨v5, v7, v8, v10, rfl, e⟩
        rw [List.getElem?_map] at hv
        obtain ⟨z, hz, rfl⟩ := Option.map_eq_some_iff.mp hv
        obtain ⟨z0, z1⟩ := hwv z (List.mem_of_getElem? hz)
        have qG := e _ _ q7
        have XG := X7.tr (Jx.of e)
        have hdG := ((x1.tr XG).dq hdj).ex hid_ex
        have TG := tx XG
        walk_at "rd"
        refine ⟨⟨_, .inl (.inl qG)⟩, ?_⟩
        refine run_lcL xs (fun D i G8 => G D = none ∧ Ex G G8 ∧ ∃ acc, G8 D = some (.lst acc) ∧ Txs G8 acc (((slopesOf dial ss).take i).filter (atB z))) ?_ ?_ ?_ ?_
        · exact fun D hD => ⟨hD, Ex.new hD, [], upd_same, .nil⟩
        · rintro D i G8 _ ⟨_, e8, _⟩
          exact .inl (.inl (e8 _ _ qG))
        · rintro D i v G8 hv ⟨hD, e8, acc, hacc, hA⟩
          obtain ⟨t, ht, a, rfl, ha⟩ := TG.get i v hv
          have ha' : G8 a = some (.tup [.int t.lo, optV t.hi, .int t.num, .int t.way]) := e8 _ _ ha
          have ht' : (slopesOf dial ss).take (i + 1) = (slopesOf dial ss).take i ++ [t] := by rw [List.take_succ, ht]; rfl
          have al : acc.length < sizeLine := by
            rw [hA.len]
            have h1 := List.length_filter_le (atB z) ((slopesOf dial ss).take i)
            rw [List.length_take] at h1
            have := C.gd.len
            exact Nat.lt_of_lt_of_le (show _ < 1000 by omega) (by decide)
          rw [ht', List.filter_append]
          have yes : atB z t = true → ∃ acc_1, G8 D = some (HO.lst acc_1) ∧ acc_1.length < sizeLine ∧ G D = none ∧ Ex G (upd G8 D (.lst (acc_1 ++ [.ref a]))) ∧ ∃ acc, (upd G8 D (.lst (acc_1 ++ [.ref a]))) D = some (.lst acc) ∧ Txs (upd G8 D (.lst (acc_1 ++ [.ref a]))) acc (((slopesOf dial ss).take i).filter (atB z) ++ [t].filter (atB z)) := fun hb => by
            refine ⟨acc, hacc, al, hD, Ex.mut e8 hD, acc ++ [.ref a], upd_same, ?_⟩
            rw [List.filter_cons, hb, if_pos rfl, List.filter_nil]
            exact (hA.mut hacc).snoc (Tx.mut hacc ⟨a, rfl, ha'⟩)
          have no : atB z t = false → G D = none ∧ Ex G G8 ∧ ∃ acc, G8 D = some (.lst acc) ∧ Txs G8 acc (((slopesOf dial ss).take i).filter (atB z) ++ [t].filter (atB z)) := fun hb => by
            refine ⟨hD, e8, acc, hacc, ?_⟩
            rw [List.filter_cons, hb, if_neg (by decide), List.filter_nil, List.append_nil]
            exact hA
          walk_at "rd"
          refine ⟨rfl, ?_⟩
          walk_at "rd"
          refine ite2 (fun c => ?_) (fun c => ?_)
          · have c' := of_decide_eq_true c
            walk_at "rd"
            cases hh : t.hi with
            | none =>
              refine iteT (iteT ?_)
              walk_at "rd"
              exact yes (by unfold atB; rw [hh, decide_eq_true c']; rfl)
            | some g =>
              rw [hh] at ha'
              have ha2 : G8 a = some (.tup [.int t.lo, .int g, .int t.num, .int t.way]) := ha'
              clear ha'
              refine iteF ?_
              walk_at "rd"
              refine ite2 (fun c2 => ?_) (fun c2 => ?_)
              · walk_at "rd"
                exact yes (by unfold atB; rw [hh, decide_eq_true c']; exact c2)
              · exact no (by unfold atB; rw [hh, decide_eq_true c']; exact Bool.eq_false_iff.mpr c2)
          · have c' : ¬ t.lo ≤ z := fun h => c (decide_eq_true h)
            refine iteF ?_
            exact no (by unfold atB; rw [decide_eq_false c']; rfl)
        rintro D8 G8 hD8 ⟨_, e8, acc, hacc, hA⟩
        rw [hT.len, List.take_length, ← run_at C RP kb39 z0 (by omega)] at hA
        have e68 := e.trans e8
        walk_at "rd"
        have zb : z.natAbs < 2 ^ 1990 := Nat.lt_of_le_of_lt (show z.natAbs ≤ 10 ^ 39 by rw [e39] at z1; omega) (by decide +kernel)
        have hd8 := hdG.ex e8
        have fD : Fine 11520 2 (.list ((slopesAtL none (slopesOf dial ss) z).map sxD)) := fine_sxsS (fun t ht => sm t (by rw [run_at C RP kb39 z0 (by omega)] at ht; exact (List.mem_filter.mp ht).1)) (Nat.le_trans (at_asc C z0 (Nat.lt_of_le_of_lt (show z.natAbs ≤ 10 ^ 39 by rw [e39] at z1; omega) (by decide +kernel))).2 (by decide))
        refine ⟨rfl, go_at hd8 C z0 zb fun q9 G9 qn e9 hL => ?_⟩
        obtain ⟨us, hu, hU⟩ := hL
        have hd9 := hd8.ex e9
        walk_at "rd"
        refine go_repr (.lst (.inl hu) hU.dqa) fD (by decide) (by decide) ?_
        walk_at "rd"
        refine go_repr (.lst (.inl (e9 _ _ hacc)) (hA.ex e9).dqa) fD (by decide) (by decide) ?_
        walk_at "rd"
        refine iteNS rfl ?_
        walk_at "rd"
        refine go_count hd9 C z0 zb fun Ga ea => ?_
        have e9a := e9.trans ea
        have qGa := (e8.trans e9a) _ _ qG
        have TGa := TG.ex (e8.trans e9a)
        walk_at "rd"
        refine ⟨⟨_, .inl (.inl qGa)⟩, ?_⟩
        refine run_lcL xs (fun D i G8 => Ga D = none ∧ Ex Ga G8 ∧ ∃ acc, G8 D = some (.lst acc) ∧ acc.length = (((slopesOf dial ss).take i).filter fun t => decide (t.lo ≤ z)).length) ?_ ?_ ?_ ?_
        · exact fun D hD => ⟨hD, Ex.new hD, [], upd_same, rfl⟩
        · rintro D i G8 _ ⟨_, e8, _⟩
          exact .inl (.inl (e8 _ _ qGa))
        · rintro D i v Gb hv ⟨hD, eb, acc2, hacc2, hA2⟩
          obtain ⟨t, ht, a, rfl, ha⟩ := TGa.get i v hv
          have ha' : Gb a = some (.tup [.int t.lo, optV t.hi, .int t.num, .int t.way]) := eb _ _ ha
          have ht' : (slopesOf dial ss).take (i + 1) = (slopesOf dial ss).take i ++ [t] := by rw [List.take_succ, ht]; rfl
          have al : acc2.length < sizeLine := by
            rw [hA2]
            have h1 := List.length_filter_le (fun t : Sx => decide (t.lo ≤ z)) ((slopesOf dial ss).take i)
            rw [List.length_take] at h1
            have := C.gd.len
            exact Nat.lt_of_lt_of_le (show _ < 1000 by omega) (by decide)
          rw [ht', List.filter_append, List.length_append]
          walk_at "rd"
          refine ⟨rfl, ?_⟩
          walk_at "rd"
          refine ite2 (fun c => ?_) (fun c => ?_)
          · walk_at "rd"
            refine ⟨acc2, hacc2, al, hD, Ex.mut eb hD, acc2 ++ [.ref a], upd_same, ?_⟩
            rw [List.length_append, hA2, List.filter_cons, if_pos c]
            rfl
          · refine ⟨hD, eb, acc2, hacc2, ?_⟩
            rw [hA2, List.filter_cons, if_neg c]
            rfl
        rintro Db Gb hDb ⟨_, eb, acc2, hacc2, hA2⟩
        rw [hT.len, List.take_length] at hA2
        walk_at "rd"
        rw [hA2, ← run_count C RP kb39 z0 (by omega)]
        refine iteNS rfl ?_
        have e9b := e9a.trans eb
        have q9b := (ea.trans eb) _ _ hu
        walk_at "rd"
        refine go_app q9b ?_ ?_
        · rw [hU.len]
          exact Nat.lt_of_le_of_lt (at_asc C z0 (Nat.lt_of_le_of_lt (show z.natAbs ≤ 10 ^ 39 by rw [e39] at z1; omega) (by decide +kernel))).2 (by decide)
        have xc := Ex.mut (o := HO.lst (us ++ [.non])) e9b qn
        revert xc
        generalize upd Gb q9 (HO.lst (us ++ [.non])) = Gc
        intro xc
        walk_at "rd"
        refine go_at (hd8.ex xc) C z0 zb fun q10 Gd qn10 ed hL10 => ?_
        obtain ⟨vs, hv10, hV⟩ := hL10
        walk_at "rd"
        refine go_neT (.lst (.inl hv10) hV.dqa) (.lst (.inl ((xc.trans ed) _ _ hacc)) (hA.ex (xc.trans ed)).dqa) (shaped_sxs _) (shaped_sxs _) (eqv_lsx _) ?_
        walk_at "rd"
        refine iteF ?_
        walk_at "rd"
        exact ⟨_, _, _, _, rfl, e68.trans (xc.trans ed)⟩
      · rintro σ G ⟨v5, v7, v8, v10, rfl, e⟩
        walk_at "rd"
        exact k _ ((jar_ex e J7).mono (by omega)) (x1.tr (X7.tr (Jx.of e)))
end
end Kx

set_option Elab.async false
set_option linter.all false
set_option maxRecDepth 100000
set_option maxHeartbeats 4000000
/-! sorted(set(xs)), xs a list of ints -/
namespace L2
open PySem PySem.Spec PyProof.Rows
section
variable {P : Program} {w : World} {A : Around} {E : Value → Shared → Prop} {s : Shared}
abbrev emptySet (w : World) : Obj := { cls := .type "set", dict := none, data := .set #[] 0 (.fresh 0 0 (!w.params.followText "set-order")) }
abbrev withSet (w : World) (s : Shared) : Shared := { s with heap := s.heap.push (emptySet w) }
/-- what set.__init__ leaves, told a list of ints -/
def MadeS (w : World) (s s2 : Shared) (ns : List Int) : Prop := ∃ h' tk c, s2 = { s with heap := h', toks := tk } ∧ SetR w h' s.heap.objs.size (fun j => decide (j ∈ ns)) c ∧ c ≤ ns.length ∧ ∀ b o, s.heap.get? b = some o → h'.get? b = some o
theorem call_set_listI {l : Addr} {items : Array Value} (ns : List Int) {Q : Value → Shared → Prop} (hh : A.handled = none) (hl : s.heap.IsList l items) (hi : IntsAre items.toList ns) (hb : ns.length + 1 < scanBound)
    (h : ∀ s2, MadeS w s s2 ns → Q (.ref s.heap.objs.size) s2) : wpAny (model P w) A (call (.type "set") [.ref l]) Q E s := by
  have hn : items.size = ns.length := by
    have q := IntsAre.length hi
    rwa [Array.length_toList] at q
  obtain ⟨c, tl, hmro⟩ := F.called_set.mro
  have hmade := F.called_set.made
  have hsub := F.called_set.sub
  have h1 := F.called_set.notType
  have h2 := F.called_set.canCreate
  have hct := F.typeCall_set_1 (.ref l)
  refine wpAny_call (codeAny_of_tree ?_)
  show wpAny _ _ (callAny (.type "set") _) _ _ _
  refine wpAny_pure ⟨Code.quiet_builtin _ (by decide +kernel), codeAny_builtin F.entry_type_call ?_⟩
  rw [Around.under_plain (weight_type_call_type "set" [.ref l] []) rfl]
  repeat (any_goals (first | assumption | wp_step))
  refine codeAny_mono (code_set_led1 (.ref l) (E := E) (Q₁ := fun obj s₁ => obj = .ref s.heap.objs.size ∧ s₁ = withSet w s) ⟨rfl, rfl⟩) fun r s₁ hr => ?_
  cases r with
  | error e => exact hr
  | ok fl =>
    cases fl with
    | ret obj =>
      obtain ⟨rfl, rfl⟩ := hr
      have at0 : (s.heap.push (emptySet w)).get? s.heap.objs.size = some (emptySet w) := Heap.get?_push_size _ rfl
      have hT : Shared.TypeIs (withSet w s) (.ref s.heap.objs.size) "set" := ⟨_, at0, rfl⟩
      have hli := F.called_set.init.lookup
      have hbi := F.called_set.init.bind (.ref s.heap.objs.size)
      repeat (any_goals (first | assumption | wp_step))
      refine codeAny_mono (codeAny_call_builtin (R := wants (fun r s₂ => r = .none ∧ MadeS w s s₂ ns) E) F.called_set.init.plain F.entry_set_init (check_set_init_1 hT ?_)) fun r₂ s₂ hr₂ => ?_
      · obtain ⟨ol, hol, hcl, nl, hdl⟩ := hl
        obtain ⟨ocls, odict, odata, oslots⟩ := ol
        simp only at hcl hdl
        subst hcl
        subst hdl
        have hlt : l < s.heap.objs.size := Heap.lt_size hol
        have hol' : (s.heap.push (emptySet w)).get? l = some { cls := .type "list", dict := odict, data := .seq items nl, slots := oslots } := Heap.get?_push_of_some _ hol
        have hl1 : (s.heap.push (emptySet w)).IsList l items := ⟨_, hol', rfl, nl, rfl⟩
        have n1 := F.sub_list_set
        have n2 := F.sub_list_frozenset
        have n3 : (Value.type "list" == Value.type "dict") = false := by decide
        unfold Builtin.«set.__init__» noKeywords Builtin.Frozenset.updateFrom
        generalize hPI : pyIter = PI
        wp_walk
        subst hPI
        refine wpAny_pyIter_list hl1 ?_
        refine wpAny_bind (wpAny_runValue ?_)
        have sz : (s.heap.push (emptySet w)).objs.size = s.heap.objs.size + 1 := Heap.size_push ..
        have neI : l ≠ (s.heap.push (emptySet w)).objs.size := by rw [sz]; exact Nat.ne_of_lt (Nat.lt_succ_of_lt hlt)
        have nin : s.heap.objs.size ∉ [(s.heap.push (emptySet w)).objs.size, l] := by
          rw [sz]
          simp only [List.mem_cons, List.not_mem_nil, or_false, not_or]
          exact ⟨Nat.ne_of_lt (Nat.lt_succ_self _), Nat.ne_of_gt hlt⟩
        have hval : ∀ (i : Nat) (v : Value), items[i]? = some v → ∃ k t, ns[i]? = some k ∧ v = .int k t := fun i v hv => by
          have lt : i < ns.length := by rw [← hn]; exact (Array.getElem?_eq_some_iff.mp hv).1
          obtain ⟨t, e⟩ := PyProof.Rows.IntsAre.int_at hi i v (by rw [Array.getElem?_toList]; exact hv)
          exact ⟨ns[i], t, List.getElem?_eq_getElem lt, by rw [e, List.getD_eq_getElem?_getD, List.getElem?_eq_getElem lt]; rfl⟩
        refine set_update_ints ((Walks.list (show A.in1.in1.in1.handled = none by simp [hh]) _ l neI items).toS) s.heap.objs.size nin ns hn hb hval (items.size - 0) 0 _ (by omega) (Nat.zero_le _)
          ⟨⟨_, Heap.get?_push_size _ rfl, rfl, rfl⟩, hl1.push _⟩ ⟨0, Nat.le_refl 0, setR_new_at (Heap.get?_push_of_some _ at0)⟩ ?_
        intro s' c' hm hc' hS'
        obtain ⟨h', g2, d', tk', os'⟩ := s'
        obtain rfl : g2 = s.gens := hm.gens
        obtain rfl : d' = s.drawn := hm.drawn
        obtain rfl : os' = s.os := hm.os
        show wpAny _ _ _ _ _ _
        refine wpAny_pure ?_
        show wpAny _ _ (ret Value.none) _ _ _
        rw [hn] at hc'
        refine wpAny_pure ⟨rfl, h', tk', c', rfl, hS', hc', fun b o e => ?_⟩
        have lt := Heap.lt_size e
        refine hm.heap b o ?_ (Heap.get?_push_of_some _ (Heap.get?_push_of_some _ e))
        rw [sz]
        simp only [List.mem_cons, List.not_mem_nil, or_false, not_or]
        exact ⟨Nat.ne_of_lt lt, Nat.ne_of_lt (Nat.lt_succ_of_lt lt)⟩
      · cases r₂ with
        | error e => exact hr₂
        | ok fl₂ =>
          cases fl₂ with
          | ret r =>
            obtain ⟨rfl, hM⟩ := hr₂
            obtain ⟨h', tk, c', rfl, r1, r2, r3⟩ := hM
            repeat (any_goals (first | assumption | wp_step))
            exact h _ ⟨_, _, _, rfl, r1, r2, r3⟩
          | _ => exact hr₂.elim
    | _ => exact hr.elim
end
/-- a set of ints -/
def SetIO (w : World) (a : Addr) (S : Int → Bool) (n : Nat) : HO := .ext fun h => SetR w h a S n
section
variable {X : Cx}
theorem setIO_new {w : World} {P : Program} {H : Hp} {h : Heap} {a : Addr} {S : Int → Bool} {n : Nat} (R : SetR w h a S n) : ObjOk P w H h a (SetIO w a S n) := by
  have ⟨o, _, _, _, ho, _⟩ := R
  exact ⟨R, ⟨o, ho⟩, fun h1 h2 p k => SetR.at p k⟩
/-- set(xs), xs a list of ints -/
def rSetLI (K : PySem.W.Frag) (w : World) : List V → Hp → VK → Prop := fun xs H Q => ∃ (p : Addr) (ns : List Int), xs = [.ref p] ∧ SqL K H p (ns.map V.int) ∧ ns.length ≤ 60 ∧
  ∀ q c, H q = none → c ≤ ns.length → Q (.ref q) (upd H q (SetIO w q (fun j => decide (j ∈ ns)) c))
theorem cr_setLI (hc : X.calm = true) : CallR X (.type "set") (rSetLI X.K X.w) := by
  intro pins s σ H xs us Q I r h
  obtain ⟨p, ns, rfl, hs, hlen, q⟩ := h
  obtain ⟨its, rv, hl, hz⟩ := I.list hs
  rw [Vals.ref1 r]
  have hi : IntsAre its.toArray.toList ns := ints_of_vals rv
  refine call_set_listI ns (I.ok.hd hc) hl.isList hi (by unfold scanBound; omega) fun s2 hM => ?_
  obtain ⟨h', tk, c, rfl, R, hc', kp⟩ := hM
  exact ⟨.ref _, _, I.laid (t' := tk) kp (Nat.le_refl _) (setIO_new R), rfl, q _ c (I.hok.fresh (Nat.le_refl _)) hc'⟩
/-- sorted(S), S a set of ints -/
def rSortSI (w : World) : List V → Hp → VK → Prop := fun xs H Q => ∃ (a : Addr) (S : Int → Bool) (n : Nat), xs = [.ref a] ∧ H a = some (SetIO w a S n) ∧ n < 64 ∧
  ∀ (p : Addr) (ns : List Int), ns.Pairwise (· < ·) → (∀ k, k ∈ ns ↔ S k = true) → ns.length = n → H p = none → Q (.ref p) (upd H p (.lst (ns.map V.int)))
theorem cr_sortSI (hc : X.calm = true) : CallR X (.builtin "sorted") (rSortSI X.w) := by
  intro pins s σ H xs us Q I r h
  obtain ⟨a, S, n, rfl, ha, h64, q⟩ := h
  rw [Vals.ref1 r]
  have R : SetR X.w s.heap a S n := (I.hok a _ ha).1
  refine sorted_set R (I.ok.hd hc) h64 fun s' p out c ns kp hg ho hp hat hI asc mem len => ?_
  have hl : (ns.map V.int).length ≤ sizeLine := by
    rw [List.length_map, len, sizeLine_eq]
    omega
  refine ⟨.ref p, upd H p (.lst (ns.map V.int)), I.call' (ch := []) ho (Un.laid kp hp (I.hok.fresh hp)) (I.hok.laid kp hp ⟨hl, out.toList, c, vals_of_ints hI, hat⟩) (by rw [hg]; exact I.bare) (fun _ z => nomatch z), rfl, q p ns asc mem len (I.hok.fresh hp)⟩
end
end L2

set_option Elab.async false
set_option linter.all false
set_option maxRecDepth 100000
set_option maxHeartbeats 4000000

namespace Kx
open PySem PySem.Spec PyProof.Rows L2 HX
open Evl (Ex)
local macro_rules | `(tactic| walk_at "side") => `(tactic| first | assumption | ((try dsimp only); first | assumption | decide +kernel | omega | exact ⟨by decide, by decide⟩ | (left; decide) | (left; omega) | (refine Or.inl ⟨?_, ?_⟩ <;> omega) | (refine Or.inr ⟨?_, ?_⟩ <;> omega)))
local macro_rules | `(tactic| walk_at "heap") => `(tactic| first | assumption | exact upd_same | exact Or.inl (by assumption) | exact Or.inl upd_same)
local macro_rules | `(tactic| walk_at "item") => `(tactic| first | exact rfl | exact atI_nat (j := 0) rfl | exact atI_nat (j := 1) rfl | exact atI_nat (j := 2) rfl | assumption)
local macro_rules | `(tactic| walk_at "rd") => `(tactic| repeat (first
  | ((with_reducible refine' go_var ?hv ?_); (case hv => exact rfl))
  | with_reducible refine' go_c ?_
  | with_reducible refine' go_op ?_
  | with_reducible refine' go_seq ?_
  | with_reducible refine' go_asg ?_
  | with_reducible refine' go_name ?_
  | with_reducible refine' go_cons ?_
  | with_reducible refine' go_nil ?_
  | with_reducible refine' go_cb ?_
  | with_reducible refine' go_call ?_
  | with_reducible refine' go_ifS ?_
  | with_reducible refine' go_test ?_
  | with_reducible refine' go_bl ?_
  | with_reducible refine' go_ret ?_
  | with_reducible refine' go_I0 ?_
  | ((with_reducible refine' go_I ?cc ?_); (case cc => walk_at "side"))
  | ((with_reducible refine' go_ixL ?hh ?hk ?_); (case hh => walk_at "heap"); (case hk => walk_at "item"))
  | ((with_reducible refine' go_ixT ?hh ?hk ?_); (case hh => walk_at "heap"); (case hk => walk_at "item"))
  | ((with_reducible refine' go_lenL ?hh ?_); (case hh => walk_at "heap"))
  | ((with_reducible refine' go_lenT ?hh ?_); (case hh => walk_at "heap"))
  | ((with_reducible refine' go_setL ?hh ?hk ?_); (case hh => walk_at "heap"); (case hk => walk_at "item"))
  | with_reducible refine' go_abs ?_
  | with_reducible refine' go_max ?_
  | with_reducible refine' go_min ?_
  | with_reducible refine' go_int ?_
  | with_reducible refine' go_intB ?_
  | (with_reducible refine' go_eq rfl ?_)
  | (with_reducible refine' go_ne rfl ?_)
  | with_reducible refine' go_isN ?_
  | with_reducible refine' go_notN ?_
  | with_reducible refine' go_if ?_
  | with_reducible refine' go_sub ?_
  | with_reducible refine' go_par ?_
  | with_reducible refine' go_sl ?_
  | with_reducible refine' go_part ?_
  | with_reducible refine' go_pint ?_
  | with_reducible refine' go_nopart ?_
  | ((with_reducible refine' go_lenL ?hh ?_); (case hh => walk_at "heap"))
  | ((with_reducible refine' go_lenT ?hh ?_); (case hh => walk_at "heap"))
  | ((with_reducible refine' go_lenS ?hh ?_); (case hh => assumption))
  | with_reducible refine' go_gcons ?_
  | with_reducible refine' go_gnil ?_
  | with_reducible refine' go_kw ?_
  | with_reducible refine' go_par2 ?_
  | with_reducible refine' go_next ?_
  | with_reducible refine' go_drop ?_
  | with_reducible refine' go_and ?_
  | with_reducible refine' go_or ?_
  | with_reducible refine' go_not ?_
  | with_reducible refine' go_B ?_
  | with_reducible refine' go_andV ?_
  | with_reducible refine' go_orV ?_
  | with_reducible refine' go_notV ?_
  | with_reducible refine' go_chain ?_
  | with_reducible refine' go_un ?_
  | with_reducible refine' go_U ?_
  | with_reducible refine' go_bm ?_
  | with_reducible refine' go_tup ?_
  | with_reducible refine' go_lst ?_
  | with_reducible refine' go_forR1 ?_
  | with_reducible refine' go_forR2 ?_
  | with_reducible refine' go_forL ?_
  | with_reducible refine' go_forT ?_
  | with_reducible refine' go_forE ?_
  | with_reducible refine' go_lcR1 ?_
  | with_reducible refine' go_lcL ?_
  | with_reducible refine' go_lcT ?_
  | ((with_reducible refine' go_tyL ?hh ?_); (case hh => walk_at "heap"))
  | ((with_reducible refine' go_new ?hz ?_); (case hz => exact Nat.le_of_ble_eq_true rfl))
  | (with_reducible refine' ⟨_, rfl, ?_⟩)
  ))
--MACEND
theorem atB_trunc {k z : Int} (h : z < k) (t : Sx) : atB z (trunc k t) = atB z t := by
  unfold atB trunc
  cases t.hi with
  | none =>
    dsimp only
    rw [decide_eq_true (show z ≤ k by omega)]
  | some g =>
    dsimp only
    split
    · rfl
    · rw [decide_eq_true (show z ≤ k by omega), decide_eq_true (show z ≤ g by omega)]
theorem due_map {k z : Int} (h : z < k) (L : List Sx) : (L.map (trunc k)).filter (atB z) = (L.filter (atB z)).map (trunc k) := by
  rw [List.filter_map]
  congr 1
  exact List.filter_congr fun t _ => atB_trunc h t
theorem count_map {k z : Int} (L : List Sx) : ((L.map (trunc k)).filter fun t => decide (t.lo ≤ z)).length = (L.filter fun t => decide (t.lo ≤ z)).length := by
  rw [List.filter_map, List.length_map]
  rfl
theorem trunc_hi (k : Int) (t : Sx) : ∃ g, (trunc k t).hi = some g := ⟨_, rfl⟩
theorem trunc_lt {k : Int} {t : Sx} {g : Int} (h : (trunc k t).hi = some g) (l : g < k) : trunc k t = t := by
  cases hh : t.hi with
  | none =>
    unfold trunc at h
    rw [hh] at h
    have e : k = g := Option.some.inj h
    omega
  | some g' =>
    refine trunc_same hh ?_
    unfold trunc at h
    rw [hh] at h
    dsimp only at h
    split at h <;> cases h <;> omega
theorem due_all {k : Int} {A : List Sx} (h : (A.map (trunc k)).filter (fun t => match t.hi with | some g => decide (k ≤ g) | none => true) = []) : A.map (trunc k) = A := by
  have : A.map (trunc k) = A.map id := List.map_congr_left fun t ht => by
    obtain ⟨g, hg⟩ := trunc_hi k t
    refine trunc_lt hg ?_
    have := List.filter_eq_nil_iff.mp h (trunc k t) (List.mem_map.mpr ⟨t, ht, rfl⟩)
    rw [hg] at this
    simpa using this
  rw [this, List.map_id]
def spSamp : Sp := fun vs H Q _ => ∃ (j : Addr) (n : Nat) (x : V) (dial top r : Int) (ss : List Stg), vs = [.ref j, x, .int dial, .int top] ∧ JarAt n H j ∧ n < 2 ^ 40 ∧ Dq (hid [j] H) x (radD ss (some r)) ∧ Rc dial ss (some r) ∧ 9 ≤ top ∧ top ≤ 10000 ∧ ∀ H', JarAt (n + 20) H' j → Jx [j] H H' → Q (.bl true) H'
section
variable {P : Program} {w : World} {K : PySem.W.Frag} {mg : Str → Option Value} {base : Heap} {CR CD CN CS : Addr}
abbrev s__law_sampled_right : Stmt := top 53
theorem sc__law_sampled_right : FnScope ["jar", "radio", "tuned", "top", "rows", "wave", "spot", "lap", "due", "row", "told"] ["jar", "radio", "tuned", "top"] (defScope s__law_sampled_right) := ⟨rfl, rfl, rfl, by decide +kernel, rfl, by decide +kernel, by decide +kernel⟩
theorem ok_law_sampled_right {f : Addr} {fd : FuncData} (F : Fun K "_law_sampled_right" "_law_sampled_right" s__law_sampled_right f fd) (m_range : mg "range" = none) (m_repr : mg "repr" = none) (m_len : mg "len" = none) (m_sorted : mg "sorted" = none) (m_set : mg "set" = none)
    (h__law_pick : Has P w K mg base 1 "_law_pick" spPick) (h__law_tone : Has P w K mg base 2 "_law_tone" spToneL) (h__law_runs : Has P w K mg base 1 "_law_runs" spRuns)
    (h_nth_slope_kw : HasKX P w K mg base 7 "nth_slope" ["index", "dial", "receiver"] rev3 rev3 (spNthE CR CD CN)) (h_count_slopes_kw : HasKX P w K mg base 7 "count_slopes" ["far", "dial", "receiver"] rev3 rev3 (spCountE CR CD CN))
    (h_slopes_at_kw : HasKX P w K mg base 7 "slopes_at" ["signal", "dial", "receiver"] rev3 rev3 (spAtE CR CD CS)) : FnG P w K mg base CX0 8 f fd ["jar", "radio", "tuned", "top"] spSamp := by
  refine okG F sc__law_sampled_right (fun vs H Q E h => ?_) (fun cdv A outer s H vs Q E hgd hr h => ?_)
  · obtain ⟨j, n, x, dial, top, r, ss, rfl, _⟩ := h
    rfl
  · obtain ⟨j, n, x, dial, top, r, ss, rfl, hJ, hn, hdj, C, t0, t1, k⟩ := h
    refine ⟨_, PSs.nox ((pss_cons (ps_set (i := 4) sc__law_sampled_right.nd rfl (Or.inr rfl) (pe_hs h__law_runs hr rfl (pa_cons (pe_lc (own := [("wave", 5)]) (g := gName 5) (by rfl) (sc__law_sampled_right).nd (pi_range1 (by rfl) m_range (pa_cons (pe_op op_add (pv 3) pe_int) pa_nil)) (blkOk_by (own := [("wave", 5)]) (N := ["jar", "radio", "tuned", "top", "rows", "wave", "spot", "lap", "due", "row", "told"]) (sc := defScope s__law_sampled_right) (by decide +kernel)) (fun _ _ _ _ _ => pg_name (i := 5) (sc__law_sampled_right).nd rfl (Or.inl rfl)) (fun _ _ _ _ _ => pts_nil) (fun _ _ _ _ _ => (pe_hs h__law_tone hr rfl (pa_cons (pv 1) (pa_cons (pv 2) (pa_cons (pv 5) pa_nil)))))) pa_nil)))
  (pss_cons (ps_for PassesOwn.never rfl (pi_list (pe_callB (cr_sortSI rfl) rfl m_sorted (by decide +kernel) (pa_cons (pe_callTy (cr_setLI rfl) rfl m_set PyProof.Rows.boot_set (pa_cons (pe_op op_cat (pe_lst (pa_cons pe_int (pa_cons pe_int (pa_cons pe_int (pa_cons (pe_op op_sub (pe_callB (show CallR _ _ (rLenQ K) from call_lenQ) rfl m_len PySem.boot_len (pa_cons (pv 4) pa_nil)) pe_int) pa_nil))))) (pe_lc (own := [("lap", 7)]) (g := gName 7) (by rfl) (sc__law_sampled_right).nd (pi_range1 (by rfl) m_range (pa_cons pe_int pa_nil)) (blkOk_by (own := [("lap", 7)]) (N := ["jar", "radio", "tuned", "top", "rows", "wave", "spot", "lap", "due", "row", "told"]) (sc := defScope s__law_sampled_right) (by decide +kernel)) (fun _ _ _ _ _ => pg_name (i := 7) (sc__law_sampled_right).nd rfl (Or.inl rfl)) (fun _ _ _ _ _ => pts_nil) (fun _ _ _ _ _ => (pe_hs h__law_pick hr rfl (pa_cons (pv 0) (pa_cons (pe_op op_add (pe_callB (show CallR _ _ (rLenQ K) from call_lenQ) rfl m_len PySem.boot_len (pa_cons (pv 4) pa_nil)) pe_int) pa_nil)))))) pa_nil)) pa_nil))) (pg_name (i := 6) sc__law_sampled_right.nd rfl (Or.inl rfl))
  (pss_one (ps_if (PW.pt (pw_and (pt_chain op_le op_lt pe_int (pv 6) (pe_callB (show CallR _ _ (rLenQ K) from call_lenQ) rfl m_len PySem.boot_len (pa_cons (pv 4) pa_nil))) (pw_and1 (pt_cmpR op_lt (pe_ix ix_tup (pe_ix ix_list (pv 4) (pv 6) (fun _ _ => rfl)) pe_int (fun _ _ => rfl)) (pv 3) (nomark _)))))
  (pss_one (ps_if (pt_cmpR op_ne (pe_callB (call_repr hgd hr.units) rfl m_repr (by decide +kernel) (pa_cons (pe_kwX h_nth_slope_kw hr rfl (pk_cons (pv 6) (pk_cons (pv 2) (pk_cons (pv 1) pk_nil)))) pa_nil)) (pe_callB (call_repr hgd hr.units) rfl m_repr (by decide +kernel) (pa_cons (pe_ix ix_list (pv 4) (pv 6) (fun _ _ => rfl)) pa_nil)) (nomark _))
  (pss_one (ps_ret pe_bl))
  pss_nil))
  pss_nil)))
  (pss_cons (ps_for PassesOwn.never rfl (pi_list (pe_op op_cat (pe_lst (pa_cons pe_int (pa_cons pe_int (pa_cons (pe_op op_sub (pv 3) pe_int) pa_nil)))) (pe_lc (own := [("lap", 7)]) (g := gName 7) (by rfl) (sc__law_sampled_right).nd (pi_range1 (by rfl) m_range (pa_cons pe_int pa_nil)) (blkOk_by (own := [("lap", 7)]) (N := ["jar", "radio", "tuned", "top", "rows", "wave", "spot", "lap", "due", "row", "told"]) (sc := defScope s__law_sampled_right) (by decide +kernel)) (fun _ _ _ _ _ => pg_name (i := 7) (sc__law_sampled_right).nd rfl (Or.inl rfl)) (fun _ _ _ _ _ => pts_nil) (fun _ _ _ _ _ => (pe_hs h__law_pick hr rfl (pa_cons (pv 0) (pa_cons (pe_op op_sub (pv 3) pe_int) pa_nil))))))) (pg_name (i := 5) sc__law_sampled_right.nd rfl (Or.inr rfl))
  (pss_cons (ps_setLc (i := 8) (own := [("row", 9)]) (g := gName 9) (by rfl) sc__law_sampled_right.nd rfl rfl (sw_true rfl rfl rfl (by decide +kernel)) (pi_list (pv 4)) (blkOk_by (own := [("row", 9)]) (N := ["jar", "radio", "tuned", "top", "rows", "wave", "spot", "lap", "due", "row", "told"]) (sc := defScope s__law_sampled_right) (by decide +kernel)) (fun _ _ _ _ _ => pg_name (i := 9) (sc__law_sampled_right).nd rfl (Or.inl rfl)) (fun _ _ _ _ _ => (pts_one (pt_chain op_le op_le (pe_ix (show IxR _ (rIxT K) from ix_tup) (pv 9) pe_int (fun _ _ => rfl)) (pv 5) (pe_ix (show IxR _ (rIxT K) from ix_tup) (pv 9) pe_int (fun _ _ => rfl))))) (fun _ _ _ _ _ => (pv 9)))
  (pss_cons (ps_if (pt_cmpR (op_eqD hr.units) (pe_lc (own := [("row", 9)]) (g := gName 9) (by rfl) (sc__law_sampled_right).nd (pi_list (pv 8)) (blkOk_by (own := [("row", 9)]) (N := ["jar", "radio", "tuned", "top", "rows", "wave", "spot", "lap", "due", "row", "told"]) (sc := defScope s__law_sampled_right) (by decide +kernel)) (fun _ _ _ _ _ => pg_name (i := 9) (sc__law_sampled_right).nd rfl (Or.inl rfl)) (fun _ _ _ _ _ => (pts_one (pt_cmpR op_ge (pe_ix (show IxR _ (rIxT K) from ix_tup) (pv 9) pe_int (fun _ _ => rfl)) (pv 3) (nomark _)))) (fun _ _ _ _ _ => (pv 9))) (pe_lst pa_nil) (nomark _))
  (pss_cons (ps_set (i := 10) sc__law_sampled_right.nd rfl (Or.inl rfl) (pe_kwX h_slopes_at_kw hr rfl (pk_cons (pv 5) (pk_cons (pv 2) (pk_cons (pv 1) pk_nil)))))
  (pss_cons (ps_if (pt_cmpR op_ne (pe_callB (call_repr hgd hr.units) rfl m_repr (by decide +kernel) (pa_cons (pv 10) pa_nil)) (pe_callB (call_repr hgd hr.units) rfl m_repr (by decide +kernel) (pa_cons (pv 8) pa_nil)) (nomark _))
  (pss_one (ps_ret pe_bl))
  pss_nil)
  (pss_one (ps_expr (pe_bm PySem.F.plainAttrs_list PySem.F.slot_list_append PySem.F.type_list_append mt_append (pv 10) (pa_cons pe_non pa_nil))))))
  pss_nil)
  (pss_cons (ps_set (i := 8) sc__law_sampled_right.nd rfl (Or.inl rfl) (pe_callB call_lenQ rfl m_len PySem.boot_len (pa_cons (pe_lc (own := [("row", 9)]) (g := gName 9) (by rfl) (sc__law_sampled_right).nd (pi_list (pv 4)) (blkOk_by (own := [("row", 9)]) (N := ["jar", "radio", "tuned", "top", "rows", "wave", "spot", "lap", "due", "row", "told"]) (sc := defScope s__law_sampled_right) (by decide +kernel)) (fun _ _ _ _ _ => pg_name (i := 9) (sc__law_sampled_right).nd rfl (Or.inl rfl)) (fun _ _ _ _ _ => (pts_one (pt_cmpR op_le (pe_ix (show IxR _ (rIxT K) from ix_tup) (pv 9) pe_int (fun _ _ => rfl)) (pv 5) (nomark _)))) (fun _ _ _ _ _ => (pv 9))) pa_nil)))
  (pss_one (ps_if (pt_cmpR op_ne (pe_callB (call_repr hgd hr.units) rfl m_repr (by decide +kernel) (pa_cons (pe_kwX h_count_slopes_kw hr rfl (pk_cons (pv 5) (pk_cons (pv 2) (pk_cons (pv 1) pk_nil)))) pa_nil)) (pe_callB (call_repr hgd hr.units) rfl m_repr (by decide +kernel) (pa_cons (pv 8) pa_nil)) (nomark _))
  (pss_one (ps_ret pe_bl))
  pss_nil))))))
  (pss_one (ps_ret pe_bl)))))), ?_⟩
    have hd := hdj.ex hid_ex
    obtain ⟨m, hm⟩ : ∃ m : Nat, top = m := ⟨top.toNat, by omega⟩
    subst hm
    have R := C.R
    have P := C.passOk
    have G := C.gd
    have mb : ((m : Nat) : Int).natAbs < 2 ^ 1000 := Nat.lt_of_le_of_lt (show ((m : Nat) : Int).natAbs ≤ 10000 by omega) (by decide +kernel)
    have up : (2 : Nat) ^ 1000 < 2 ^ 1990 := Nat.pow_lt_pow_right (by decide) (by decide)
    walk_at "rd"
    refine ⟨by omega, by omega, ?_⟩
    rw [show ((m : Int) + 1).toNat = m + 1 by omega]
    refine run_lcR (fun D i G => G D = some (.lst ((List.range i).map fun i => optV (toneF dial ss (some r) (i : Nat)))) ∧ Ex H G ∧ H D = none) ?_ ?_ ?_
    · exact fun D hD => ⟨upd_same, Ex.new hD, hD⟩
    · rintro D i G hi ⟨hD, e, hfr⟩
      walk_at "rd"
      refine ⟨rfl, go_yes (iteT ?_)⟩
      walk_at "rd"
      refine ⟨x, dial, 0 + (i : Int), _, ss, some r, rfl, hd.ex e, R, fun H2 e2 => ?_⟩
      refine ⟨_, e2 _ _ hD, ?_, ?_, Ex.mut (e.trans e2) hfr, hfr⟩
      · rw [List.length_map, List.length_range]
        exact Nat.lt_of_lt_of_le (show i < 100000 by omega) (by decide)
      · rw [upd_same, List.range_succ, List.map_append, Int.zero_add]
        rfl
    rintro D G1 hDn ⟨hD, e1, _⟩
    walk_at "rd"
    refine ⟨D, toneF dial ss (some r), m, rfl, hD, by omega, fun y y0 ym z => ?_, fun q L G2 hq1 e2 RL hL => ?_⟩
    · have yb : y.natAbs < 2 ^ 1990 := Nat.lt_of_le_of_lt (show y.natAbs ≤ ((m : Nat) : Int).natAbs by omega) (Nat.lt_trans mb up)
      obtain ⟨i, t, i0, ic, e, h1, h2⟩ := nth_has P G yb z
      have := G.le y0 yb
      exact ⟨t, nth_isl P G i0 (Nat.le_trans (show i.natAbs ≤ ((m : Nat) : Int).natAbs + 1 by omega) (Nat.le_trans (Nat.succ_le_of_lt mb) (Nat.pow_le_pow_right (by decide) (by decide)))) e, h1, h2⟩
    obtain ⟨xs, hq, hT⟩ := hL
    have ll := RL.len
    have len : xs.length ≤ m := by rw [hT.len, List.length_map]; exact ll
    have e12 := e1.trans e2
    have J2 := jar_ex e12 hJ
    have qj : q ≠ j := fresh_ne hJ.obj.choose_spec (Evl.fresh_back e1 hq1)
    have x2 : Jx [j] H G2 := Jx.of e12
    clear hD e1 e2 e12 hDn hq1
    have tx : ∀ {G : Hp}, Jx [j] G2 G → Txs G xs (L.map (trunc m)) := fun {G} X => ⟨hT.len, fun i v hv => by
      obtain ⟨t, ht, a, e, ha⟩ := hT.get i v hv
      exact ⟨t, ht, a, e, X.get ha (nin1 (tup_ne J2 ha))⟩⟩
    have lit : ∀ i t, L[i]? = some t → nthS (some r) (slopesOf dial ss) (i : Nat) = some t ∧ Lit 590 t := fun i t ht => by
      have il := (List.getElem?_eq_some_iff.mp ht).1
      have e := (run_nth C RL (by omega) mb).2 i il
      rw [ht] at e
      exact ⟨e, C.lit (by omega) (Int.le_trans (show ((i : Nat) : Int) ≤ 10000 by omega) (by decide +kernel)) t e⟩
    walk_at "rd"
    intro l1 hl1
    have l1j : l1 ≠ j := fresh_ne J2.obj.choose_spec hl1
    have J3 : JarAt n (upd G2 l1 (.lst ([0, 1, 2, (xs.length : Int) - 2].map V.int))) j := J2.keep (upd_ne l1j.symm)
    have e3 : Ex G2 (upd G2 l1 (.lst ([0, 1, 2, (xs.length : Int) - 2].map V.int))) := Ex.new hl1
    have h1l : upd G2 l1 (.lst ([0, 1, 2, (xs.length : Int) - 2].map V.int)) l1 = some (.lst ([0, 1, 2, (xs.length : Int) - 2].map V.int)) := upd_same
    revert J3 e3 h1l
    show _ → _ → _ → tLc _ _ _ _ _ _ (upd G2 l1 (.lst ([0, 1, 2, (xs.length : Int) - 2].map V.int))) _
    generalize upd G2 l1 (.lst ([0, 1, 2, (xs.length : Int) - 2].map V.int)) = G3
    intro J3 e3 h1l
    walk_at "rd"
    refine ⟨by decide, by decide, ?_⟩
    refine run_lcR (fun D i G => Ints G D i (xs.length + 1) ∧ JarAt (n + i) G j ∧ Jx [j] G3 G ∧ G3 D = none) ?_ ?_ ?_
    · exact fun D hD => ⟨⟨[], upd_same, rfl, fun _ h => nomatch h⟩, (J3.mono (by omega)).keep (upd_ne (fresh_ne J3.obj.choose_spec hD).symm), Jx.new hD, hD⟩
    · rintro D i G hi ⟨hI, JG, X, hfr⟩
      have hi4 : i < 6 := hi
      have Dj : D ≠ j := fresh_ne J3.obj.choose_spec hfr
      have qG : G q = some (.lst xs) := X.get (e3 _ _ hq) (nin1 qj)
      walk_at "rd"
      refine ⟨rfl, go_yes (iteT ?_)⟩
      walk_at "rd"
      refine pick_go JG (by omega) (by omega) (Int.lt_of_le_of_lt (show (xs.length : Int) + 1 ≤ 100000 by omega) (by decide +kernel)) fun u G4 u0 u1 J4 y4 => ?_
      obtain ⟨acc, a1, a2, a3⟩ := hI.snoc (G' := G4) (by obtain ⟨zs, z1, _⟩ := hI; rw [z1]; exact y4.get z1 (nin1 Dj)) u0 u1 (by omega)
      exact ⟨acc, a1, a2, a3, (J4.mono (by omega)).keep (upd_ne Dj.symm), jx_mut (X.tr y4) hfr, hfr⟩
    rintro D1 G4 hD1 ⟨⟨zs, hz1, hz2, hz3⟩, J4, X4, _⟩
    refine go_cat (X4.get h1l (nin1 l1j)) hz1 (by rw [List.length_map, List.length_map, hz2]; exact Nat.le_trans (show 4 + Int.toNat 6 ≤ 100 by decide) (by decide)) fun p3 hp3 => ?_
    have hws : ∀ z ∈ [0, 1, 2, (xs.length : Int) - 2] ++ zs, -2 ≤ z ∧ z ≤ xs.length + 2 := fun z hz => by
      rcases List.mem_append.mp hz with hz | hz
      · simp only [List.mem_cons, List.not_mem_nil, or_false] at hz
        omega
      · have := hz3 z hz
        omega
    have wlen : ([0, 1, 2, (xs.length : Int) - 2] ++ zs).length ≤ 20 := by
      rw [List.length_append, hz2]
      show 4 + Int.toNat 6 ≤ 20
      decide
    rw [← List.map_append]
    generalize [0, 1, 2, (xs.length : Int) - 2] ++ zs = ws at hws wlen
    have p3j : p3 ≠ j := fresh_ne J4.obj.choose_spec hp3
    have J5 : JarAt (n + 6) (upd G4 p3 (.lst (ws.map V.int))) j := J4.keep (upd_ne p3j.symm)
    have h5 : upd G4 p3 (.lst (ws.map V.int)) p3 = some (.lst (ws.map V.int)) := upd_same
    have X5 : Jx [j] G2 (upd G4 p3 (.lst (ws.map V.int))) := ((Jx.of e3).tr X4).tr (Jx.new hp3)
    revert J5 h5 X5
    generalize upd G4 p3 (.lst (ws.map V.int)) = G5
    intro J5 h5 X5
    walk_at "rd"
    refine ⟨p3, ws, rfl, SqL.of h5, by omega, fun sp c hsp hc => ?_⟩
    walk_at "rd"
    refine ⟨sp, _, c, rfl, upd_same, by omega, fun lp ns asc mem nlen hlp => ?_⟩
    have hns : ∀ z ∈ ns, -2 ≤ z ∧ z ≤ xs.length + 2 := fun z hz => hws z (of_decide_eq_true ((mem z).mp hz))
    have e6 := (Ex.new (o := SetIO w sp (fun j => decide (j ∈ ws)) c) hsp).trans (Ex.new (o := HO.lst (ns.map V.int)) hlp)
    have h6 : upd (upd G5 sp (SetIO w sp (fun j => decide (j ∈ ws)) c)) lp (.lst (ns.map V.int)) lp = some (.lst (ns.map V.int)) := upd_same
    revert e6 h6
    show _ → _ → ∃ a, V.ref lp = V.ref a ∧ (∃ xs, SqL K (upd (upd G5 sp (SetIO w sp (fun j => decide (j ∈ ws)) c)) lp (.lst (ns.map V.int))) a xs) ∧ forL K a (gName 6) _ _ _ (upd (upd G5 sp (SetIO w sp (fun j => decide (j ∈ ws)) c)) lp (.lst (ns.map V.int)))
    generalize upd (upd G5 sp (SetIO w sp (fun j => decide (j ∈ ws)) c)) lp (.lst (ns.map V.int)) = G6
    intro e6 h6
    have J6 := jar_ex e6 J5
    have X6 : Jx [j] G2 G6 := X5.tr (Jx.of e6)
    have q6 : G6 q = some (.lst xs) := X6.get hq (nin1 qj)
    refine ⟨lp, rfl, ⟨_, .inl (.inl h6)⟩, ?_⟩
    refine run_forL (ns.map V.int) (fun i σ G => ∃ v6 : Option V, σ = [some (.ref j), some x, some (.int dial), some (.int m), some (.ref q), none, v6, none, none, none, none] ∧ Ex G6 G) ?_ ?_ ?_ ?_
    · exact ⟨_, rfl, Ex.refl _⟩
    · rintro i σ G _ ⟨v6, rfl, e⟩
      exact .inl (.inl (e _ _ h6))
    · rintro i v σ G hv ⟨v6, rfl, e⟩
      rw [List.getElem?_map] at hv
      obtain ⟨z, hz, rfl⟩ := Option.map_eq_some_iff.mp hv
      obtain ⟨z0, z1⟩ := hns z (List.mem_of_getElem? hz)
      have qG := e _ _ q6
      have XG := X6.tr (Jx.of e)
      have hdG := ((x2.tr XG).dq hdj).ex hid_ex
      have TG := tx XG
      have fin : ∃ v6_1 : Option V, [some (.ref j), some x, some (.int dial), some (.int m), some (.ref q), none, some (V.int z), none, none, none, none] = [some (.ref j), some x, some (.int dial), some (.int m), some (.ref q), none, v6_1, none, none, none, none] ∧ Ex G6 G := ⟨_, rfl, e⟩
      walk_at "rd"
      refine ite2 (fun c0 => ?_) (fun c0 => ?_)
      · have z0' : 0 ≤ z := of_decide_eq_true c0
        obtain ⟨i', rfl⟩ : ∃ i' : Nat, z = i' := ⟨z.toNat, by omega⟩
        walk_at "rd"
        refine ite2 (fun c1 => ?_) (fun c1 => ?_)
        · have lt : i' < xs.length := by have := of_decide_eq_true c1; omega
          obtain ⟨t', ht', a, ea, ha⟩ := TG.get i' xs[i'] (List.getElem?_eq_getElem lt)
          obtain ⟨t, ht, rfl⟩ : ∃ t, L[i']? = some t ∧ trunc m t = t' := by
            rw [List.getElem?_map] at ht'
            exact Option.map_eq_some_iff.mp ht'
          obtain ⟨g, hg⟩ := trunc_hi m t
          have hat : xs[i']? = some (.ref a) := by rw [List.getElem?_eq_getElem lt, ea]
          have ha2 : G a = some (.tup [.int t.lo, optV (trunc m t).hi, .int t.num, .int t.way]) := ha
          rw [hg] at ha2
          have ha3 : G a = some (.tup [.int t.lo, .int g, .int t.num, .int t.way]) := ha2
          clear ha2
          walk_at "rd"
          refine go_ixL (.inl qG) (v := .ref a) (atI_nat hat) ?_
          walk_at "rd"
          refine ite2 (fun c2 => ?_) (fun c2 => ?_)
          · have gm : g < m := of_decide_eq_true c2
            rw [trunc_lt hg gm] at ha
            obtain ⟨el, fl⟩ := lit i' t ht
            have fo : Fine 2404 1 (sxD t) := fine_sx fl
            have mb' : ((i' : Nat) : Int).natAbs < 2 ^ 1990 := Nat.lt_of_le_of_lt (show ((i' : Nat) : Int).natAbs ≤ 100000 by omega) (by decide +kernel)
            walk_at "rd"
            refine ⟨rfl, go_nthO hdG C z0' mb' fun v' G7 e7 ho => ?_⟩
            rw [el] at ho
            walk_at "rd"
            refine go_repr (Ox.dq ho) fo (by decide) (by decide) ?_
            walk_at "rd"
            refine go_ixL (.inl (e7 _ _ qG)) (v := .ref a) (atI_nat hat) ?_
            walk_at "rd"
            refine go_repr (Tx.dq ⟨a, rfl, e7 _ _ ha⟩) fo (by decide) (by decide) ?_
            walk_at "rd"
            refine iteNS rfl ?_
            walk_at "rd"
            first | exact e.trans e7 | exact ⟨_, rfl, e.trans e7⟩
          · walk_at "rd"
            first | exact fin | exact e
        · refine iteF ?_
          walk_at "rd"
          first | exact fin | exact e
      · refine ⟨false, rfl, iteF ?_⟩
        walk_at "rd"
        first | exact fin | exact e
    · rintro σ G ⟨v6, rfl, e⟩
      have JG := jar_ex e J6
      have XG := X6.tr (Jx.of e)
      have qG := e _ _ q6
      clear X6 J6 h6 e6 hns mem asc nlen wlen hws h5 X5 J5 X4 hz1 hz2 hz3 h1l J3 e3 q6 J4
      walk_at "rd"
      intro l5 hl5
      have l5j : l5 ≠ j := fresh_ne JG.obj.choose_spec hl5
      have J5 : JarAt (n + 6) (upd G l5 (.lst ([0, 1, (m : Int) - 2].map V.int))) j := JG.keep (upd_ne l5j.symm)
      have X5 : Jx [j] G2 (upd G l5 (.lst ([0, 1, (m : Int) - 2].map V.int))) := XG.tr (Jx.new hl5)
      have h5 : upd G l5 (.lst ([0, 1, (m : Int) - 2].map V.int)) l5 = some (.lst ([0, 1, (m : Int) - 2].map V.int)) := upd_same
      revert J5 X5 h5
      show _ → _ → _ → tLc _ _ _ _ _ _ (upd G l5 (.lst ([0, 1, (m : Int) - 2].map V.int))) _
      generalize upd G l5 (.lst ([0, 1, (m : Int) - 2].map V.int)) = G5
      intro J5 X5 h5
      walk_at "rd"
      refine ⟨by decide, by decide, ?_⟩
      refine run_lcR (fun D i G => Ints G D i ((m : Int) - 1) ∧ JarAt (n + 6 + i) G j ∧ Jx [j] G5 G ∧ G5 D = none) ?_ ?_ ?_
      · exact fun D hD => ⟨⟨[], upd_same, rfl, fun _ h => nomatch h⟩, (J5.mono (by omega)).keep (upd_ne (fresh_ne J5.obj.choose_spec hD).symm), Jx.new hD, hD⟩
      · rintro D i G hi ⟨hI, JG, X, hfr⟩
        have hi6 : i < 9 := hi
        have Dj : D ≠ j := fresh_ne J5.obj.choose_spec hfr
        walk_at "rd"
        refine ⟨rfl, go_yes (iteT ?_)⟩
        walk_at "rd"
        refine pick_go JG (by omega) (by omega) (Int.lt_of_le_of_lt (show (m : Int) - 1 ≤ 100000 by omega) (by decide +kernel)) fun u G3 u0 u1 J3 y3 => ?_
        obtain ⟨acc, a1, a2, a3⟩ := hI.snoc (G' := G3) (by obtain ⟨zs, z1, _⟩ := hI; rw [z1]; exact y3.get z1 (nin1 Dj)) u0 u1 (by omega)
        exact ⟨acc, a1, a2, a3, (J3.mono (by omega)).keep (upd_ne Dj.symm), jx_mut (X.tr y3) hfr, hfr⟩
      rintro D2 G6 hD2 ⟨⟨ys, hy1, hy2, hy3⟩, J6, X6, _⟩
      refine go_cat (X6.get h5 (nin1 l5j)) hy1 (by rw [List.length_map, List.length_map, hy2]; exact Nat.le_trans (show 3 + Int.toNat 9 ≤ 100 by decide) (by decide)) fun p7 hp7 => ?_
      have hwv : ∀ z ∈ [0, 1, (m : Int) - 2] ++ ys, 0 ≤ z ∧ z ≤ (m : Int) - 2 := fun z hz => by
        rcases List.mem_append.mp hz with hz | hz
        · simp only [List.mem_cons, List.not_mem_nil, or_false] at hz
          omega
        · have := hy3 z hz
          omega
      rw [← List.map_append]
      generalize [0, 1, (m : Int) - 2] ++ ys = wv at hwv
      have p7j : p7 ≠ j := fresh_ne J6.obj.choose_spec hp7
      have J7 : JarAt (n + 15) (upd G6 p7 (.lst (wv.map V.int))) j := J6.keep (upd_ne p7j.symm)
      have h7 : upd G6 p7 (.lst (wv.map V.int)) p7 = some (.lst (wv.map V.int)) := upd_same
      have X7 : Jx [j] G2 (upd G6 p7 (.lst (wv.map V.int))) := (X5.tr X6).tr (Jx.new hp7)
      revert J7 h7 X7
      generalize upd G6 p7 (.lst (wv.map V.int)) = G7
      intro J7 h7 X7
      have q7 : G7 q = some (.lst xs) := X7.get hq (nin1 qj)
      clear XG qG hy1 X6 h5 J6 X5 J5 JG e
      refine ⟨p7, rfl, ⟨_, .inl (.inl h7)⟩, ?_⟩
      refine run_forL (wv.map V.int) (fun i σ G => ∃ v5 v8 v10 : Option V, σ = [some (.ref j), some x, some (.int dial), some (.int m), some (.ref q), v5, v6, none, v8, none, v10] ∧ Ex G7 G) ?_ ?_ ?_ ?_
      · exact ⟨_, _, _, rfl, Ex.refl _⟩
      · rintro i σ G _ ⟨v5, v8, v10, rfl, e⟩
        exact .inl (.inl (e _ _ h7))
      · rintro i v σ G hv ⟨v5, v8, v10, rfl, e⟩
        rw [List.getElem?_map] at hv
        obtain ⟨z, hz, rfl⟩ := Option.map_eq_some_iff.mp hv
        obtain ⟨z0, z1⟩ := hwv z (List.mem_of_getElem? hz)
        have qG := e _ _ q7
        have XG := X7.tr (Jx.of e)
        have hdG := ((x2.tr XG).dq hdj).ex hid_ex
        have TG := tx XG
        have zk : z < (m : Int) := by omega
        have zb : z.natAbs < 2 ^ 1000 := Nat.lt_of_le_of_lt (show z.natAbs ≤ ((m : Nat) : Int).natAbs by omega) mb
        generalize hM : L.map (trunc m) = M at TG
        have Ml : M.length ≤ 10000 := by rw [← hM, List.length_map]; omega
        have Mh : ∀ t ∈ M, ∃ g, t.hi = some g := fun t ht => by
          rw [← hM] at ht
          obtain ⟨u, _, rfl⟩ := List.mem_map.mp ht
          exact trunc_hi m u
        walk_at "rd"
        refine ⟨⟨_, .inl (.inl qG)⟩, ?_⟩
        refine run_lcL xs (fun D i G8 => G D = none ∧ Ex G G8 ∧ ∃ acc, G8 D = some (.lst acc) ∧ Txs G8 acc ((M.take i).filter (atB z))) ?_ ?_ ?_ ?_
        · exact fun D hD => ⟨hD, Ex.new hD, [], upd_same, .nil⟩
        · rintro D i G8 _ ⟨_, e8, _⟩
          exact .inl (.inl (e8 _ _ qG))
        · rintro D i v G8 hv ⟨hD, e8, acc, hacc, hA⟩
          obtain ⟨t, ht, a, rfl, ha⟩ := TG.get i v hv
          obtain ⟨g, hh⟩ := Mh t (List.mem_of_getElem? ht)
          have ha' : G8 a = some (.tup [.int t.lo, optV t.hi, .int t.num, .int t.way]) := e8 _ _ ha
          have ha2 := ha'
          rw [hh] at ha2
          have ha3 : G8 a = some (.tup [.int t.lo, .int g, .int t.num, .int t.way]) := ha2
          clear ha2
          have ht' : M.take (i + 1) = M.take i ++ [t] := by rw [List.take_succ, ht]; rfl
          have al : acc.length < sizeLine := by
            rw [hA.len]
            have h1 := List.length_filter_le (atB z) (M.take i)
            rw [List.length_take] at h1
            exact Nat.lt_of_lt_of_le (show _ < 100000 by omega) (by decide)
          rw [ht', List.filter_append]
          have yes : atB z t = true → ∃ acc_1, G8 D = some (HO.lst acc_1) ∧ acc_1.length < sizeLine ∧ G D = none ∧ Ex G (upd G8 D (.lst (acc_1 ++ [.ref a]))) ∧ ∃ acc, (upd G8 D (.lst (acc_1 ++ [.ref a]))) D = some (.lst acc) ∧ Txs (upd G8 D (.lst (acc_1 ++ [.ref a]))) acc ((M.take i).filter (atB z) ++ [t].filter (atB z)) := fun hb => by
            refine ⟨acc, hacc, al, hD, Ex.mut e8 hD, acc ++ [.ref a], upd_same, ?_⟩
            rw [List.filter_cons, hb, if_pos rfl, List.filter_nil]
            exact (hA.mut hacc).snoc (Tx.mut hacc ⟨a, rfl, ha'⟩)
          have no : atB z t = false → G D = none ∧ Ex G G8 ∧ ∃ acc, G8 D = some (.lst acc) ∧ Txs G8 acc ((M.take i).filter (atB z) ++ [t].filter (atB z)) := fun hb => by
            refine ⟨hD, e8, acc, hacc, ?_⟩
            rw [List.filter_cons, hb, if_neg (by decide), List.filter_nil, List.append_nil]
            exact hA
          clear ha'
          walk_at "rd"
          refine ⟨rfl, ?_⟩
          walk_at "rd"
          refine ite2 (fun c => ?_) (fun c => ?_)
          · have c' := of_decide_eq_true c
            walk_at "rd"
            refine ite2 (fun c2 => ?_) (fun c2 => ?_)
            · walk_at "rd"
              exact yes (by unfold atB; rw [hh, decide_eq_true c']; exact c2)
            · exact no (by unfold atB; rw [hh, decide_eq_true c']; exact Bool.eq_false_iff.mpr c2)
          · have c' : ¬ t.lo ≤ z := fun h => c (decide_eq_true h)
            refine ⟨false, rfl, iteF ?_⟩
            exact no (by unfold atB; rw [decide_eq_false c']; rfl)
        rintro D8 G8 hD8 ⟨_, e8, acc, hacc, hA⟩
        have lM : xs.length = M.length := TG.len
        rw [lM, List.take_length] at hA
        generalize hW : M.filter (atB z) = W at hA
        have hWA : W = (slopesAtL (some r) (slopesOf dial ss) z).map (trunc m) := by
          rw [← hW, ← hM, due_map zk, run_at C RL mb z0 zk]
        have e78 := e.trans e8
        have q8 := e8 _ _ qG
        have T8 := TG.ex e8
        with_reducible refine' go_name ?_
        with_reducible refine' cut_s (fun σ' Gc => ∃ v10' : Option V, σ' = [some (.ref j), some x, some (.int dial), some (.int m), some (.ref q), some (.int z), v6, none, some (.ref D8), none, v10'] ∧ Ex G8 Gc) ?h1 ?h2
        case h1 =>
          intro D' _ _ _ nx
          have Wl : W.length ≤ 10000 := by rw [← hW]; exact Nat.le_trans (List.length_filter_le _ _) Ml
          have Wh : ∀ t ∈ W, ∃ g, t.hi = some g := fun t ht => Mh t (by rw [← hW] at ht; exact (List.mem_filter.mp ht).1)
          walk_at "rd"
          refine ⟨⟨_, .inl (.inl hacc)⟩, ?_⟩
          refine run_lcL acc (fun D i Gx => G8 D = none ∧ Ex G8 Gx ∧ ∃ acc, Gx D = some (.lst acc) ∧ Txs Gx acc ((W.take i).filter fun t => match t.hi with | some g => decide ((m : Int) ≤ g) | none => true)) ?_ ?_ ?_ ?_
          · exact fun D hD => ⟨hD, Ex.new hD, [], upd_same, .nil⟩
          · rintro D i Gx _ ⟨_, ex, _⟩
            exact .inl (.inl (ex _ _ hacc))
          · rintro D i v Gx hv ⟨hD, ex, acc2, hacc2, hA2⟩
            obtain ⟨t, ht, a, rfl, ha⟩ := hA.get i v hv
            obtain ⟨g, hh⟩ := Wh t (List.mem_of_getElem? ht)
            have ha' : Gx a = some (.tup [.int t.lo, optV t.hi, .int t.num, .int t.way]) := ex _ _ ha
            have ha2 := ha'
            rw [hh] at ha2
            have ha3 : Gx a = some (.tup [.int t.lo, .int g, .int t.num, .int t.way]) := ha2
            clear ha2
            have ht' : W.take (i + 1) = W.take i ++ [t] := by rw [List.take_succ, ht]; rfl
            have al : acc2.length < sizeLine := by
              rw [hA2.len]
              have h1 := List.length_filter_le (fun t : Sx => match t.hi with | some g => decide ((m : Int) ≤ g) | none => true) (W.take i)
              rw [List.length_take] at h1
              exact Nat.lt_of_lt_of_le (show _ < 100000 by omega) (by decide)
            rw [ht', List.filter_append]
            have tv : Tx Gx (.ref a) t := ⟨a, rfl, ha'⟩
            clear ha'
            walk_at "rd"
            refine ⟨rfl, ?_⟩
            walk_at "rd"
            refine ite2 (fun c => ?_) (fun c => ?_)
            · walk_at "rd"
              refine ⟨acc2, hacc2, al, hD, Ex.mut ex hD, acc2 ++ [.ref a], upd_same, ?_⟩
              rw [List.filter_cons, hh, if_pos c, List.filter_nil]
              exact (hA2.mut hacc2).snoc (Tx.mut hacc2 tv)
            · refine ⟨hD, ex, acc2, hacc2, ?_⟩
              rw [List.filter_cons, hh, if_neg c, List.filter_nil, List.append_nil]
              exact hA2
          rintro D9 G9 hD9 ⟨_, e9, acc2, hacc2, hA2⟩
          have lW : acc.length = W.length := hA.len
          rw [lW, List.take_length] at hA2
          walk_at "rd"
          intro p10 hp10
          have x10 := Ex.new (o := HO.lst []) hp10
          refine go_eqD (.lst (.inl (x10 _ _ hacc2)) (hA2.ex x10).dqa) (.lst (.inl upd_same) .nil) (shaped_sxs _) (by decide +kernel) ?_
          rw [sxs_nil]
          have e10 := e9.trans x10
          revert e10
          generalize upd G9 p10 (.lst []) = G10
          intro e10
          have accG := e10 _ _ hacc
          have A10 := hA.ex e10
          have hd10 := hdG.ex (e8.trans e10)
          cases hE : (W.filter fun t => match t.hi with | some g => decide ((m : Int) ≤ g) | none => true).isEmpty with
          | false =>
            refine ⟨false, rfl, iteF ?_⟩
            walk_at "rd"
            exact nx _ _ ⟨_, rfl, e10⟩
          | true =>
            have hE' := List.isEmpty_iff.mp hE
            rw [hWA] at hE'
            have eW : W = slopesAtL (some r) (slopesOf dial ss) z := by rw [hWA]; exact due_all hE'
            have fD : Fine 4810 2 (.list (W.map sxD)) := by
              refine (Fine.list (w := 2404) (k := 1) (l := W.map sxD) fun y hy => ?_).mono ?_ (Nat.le_refl _)
              · obtain ⟨t, ht, rfl⟩ := List.mem_map.mp hy
                rw [eW, run_at C RL mb z0 zk] at ht
                obtain ⟨i', hi'⟩ := List.mem_iff_getElem?.mp (List.mem_filter.mp ht).1
                exact fine_sx (lit i' t hi').2
              · have := (at_asc C z0 zb).2
                rw [List.length_map, eW]
                omega
            refine ⟨true, rfl, iteT ?_⟩
            walk_at "rd"
            refine ⟨rfl, go_at hd10 C z0 (Nat.lt_trans zb up) fun q9 G11 qn e11 hL => ?_⟩
            rw [← eW] at hL
            obtain ⟨us, hu, hU⟩ := hL
            walk_at "rd"
            refine go_repr (.lst (.inl hu) hU.dqa) fD (by decide) (by decide) ?_
            walk_at "rd"
            refine go_repr (.lst (.inl (e11 _ _ accG)) (A10.ex e11).dqa) fD (by decide) (by decide) ?_
            walk_at "rd"
            refine iteNS rfl ?_
            walk_at "rd"
            refine go_app hu ?_ ?_
            · rw [hU.len]
              exact Nat.lt_of_le_of_lt (show W.length ≤ 10000 from Wl) (by decide)
            walk_at "rd"
            exact nx _ _ ⟨_, rfl, Ex.mut (e10.trans e11) (Evl.fresh_back e10 qn)⟩
        case h2 =>
          rintro σ Gc ⟨v10', rfl, ec⟩
          have qGc := ec _ _ q8
          have TGc := T8.ex ec
          have hdc := hdG.ex (e8.trans ec)
          clear hdG q8 T8
          walk_at "rd"
          refine ⟨⟨_, .inl (.inl qGc)⟩, ?_⟩
          refine run_lcL xs (fun D i G8 => Gc D = none ∧ Ex Gc G8 ∧ ∃ acc, G8 D = some (.lst acc) ∧ acc.length = ((M.take i).filter fun t => decide (t.lo ≤ z)).length) ?_ ?_ ?_ ?_
          · exact fun D hD => ⟨hD, Ex.new hD, [], upd_same, rfl⟩
          · rintro D i G8 _ ⟨_, e8, _⟩
            exact .inl (.inl (e8 _ _ qGc))
          · rintro D i v Gb hv ⟨hD, eb, acc2, hacc2, hA2⟩
            obtain ⟨t, ht, a, rfl, ha⟩ := TGc.get i v hv
            have ha' : Gb a = some (.tup [.int t.lo, optV t.hi, .int t.num, .int t.way]) := eb _ _ ha
            have ht' : M.take (i + 1) = M.take i ++ [t] := by rw [List.take_succ, ht]; rfl
            have al : acc2.length < sizeLine := by
              rw [hA2]
              have h1 := List.length_filter_le (fun t : Sx => decide (t.lo ≤ z)) (M.take i)
              rw [List.length_take] at h1
              exact Nat.lt_of_lt_of_le (show _ < 100000 by omega) (by decide)
            rw [ht', List.filter_append, List.length_append]
            walk_at "rd"
            refine ⟨rfl, ?_⟩
            walk_at "rd"
            refine ite2 (fun c => ?_) (fun c => ?_)
            · walk_at "rd"
              refine ⟨acc2, hacc2, al, hD, Ex.mut eb hD, acc2 ++ [.ref a], upd_same, ?_⟩
              rw [List.length_append, hA2, List.filter_cons, if_pos c]
              rfl
            · refine ⟨hD, eb, acc2, hacc2, ?_⟩
              rw [hA2, List.filter_cons, if_neg c]
              rfl
          rintro Db Gb hDb ⟨_, eb, acc2, hacc2, hA2⟩
          rw [lM, List.take_length, ← hM, count_map, ← Int.ofNat_inj, ← run_count C RL mb z0 zk] at hA2
          walk_at "rd"
          refine ⟨rfl, go_count (hdc.ex eb) C z0 (Nat.lt_trans zb up) fun Ge ee => ?_⟩
          rw [← hA2]
          have fI : Fine 600 0 (.int (acc2.length : Int)) := Fine.int (by
            have h1 := congrArg Int.natAbs hA2
            have h2 := C.gd.le z0 (Nat.lt_trans zb up)
            have h3 := (C.gd.cnt z0 (Nat.lt_trans zb up)).1
            exact Nat.lt_of_le_of_lt (show ((acc2.length : Nat) : Int).natAbs ≤ 10001 by omega) (by decide +kernel))
          walk_at "rd"
          refine go_repr (.int _) fI (by decide) (by decide) ?_
          walk_at "rd"
          refine go_repr (.int _) fI (by decide) (by decide) ?_
          walk_at "rd"
          refine iteNS rfl ?_
          walk_at "rd"
          exact ⟨_, _, _, rfl, ((e.trans e8).trans ec).trans (eb.trans ee)⟩
      · rintro σ G ⟨v5, v8, v10, rfl, e⟩
        walk_at "rd"
        exact k _ ((jar_ex e J7).mono (by omega)) (x2.tr (X7.tr (Jx.of e)))
end
end Kx

set_option Elab.async false
set_option linter.all false
set_option maxRecDepth 100000
set_option maxHeartbeats 4000000

namespace Kx
open PySem PySem.Spec PyProof.Rows L2 HX
open Evl (Ex)
local macro_rules | `(tactic| walk_at "side") => `(tactic| first | assumption | ((try dsimp only); first | assumption | decide +kernel | omega | exact ⟨by decide, by decide⟩ | (left; decide) | (left; omega) | (refine Or.inl ⟨?_, ?_⟩ <;> omega) | (refine Or.inr ⟨?_, ?_⟩ <;> omega)))
local macro_rules | `(tactic| walk_at "heap") => `(tactic| first | assumption | exact upd_same | exact Or.inl (by assumption) | exact Or.inl upd_same)
local macro_rules | `(tactic| walk_at "item") => `(tactic| first | exact rfl | exact atI_nat (j := 0) rfl | exact atI_nat (j := 1) rfl | exact atI_nat (j := 2) rfl | assumption)
local macro_rules | `(tactic| walk_at "rd") => `(tactic| repeat (first
  | ((with_reducible refine' go_var ?hv ?_); (case hv => exact rfl))
  | with_reducible refine' go_c ?_
  | with_reducible refine' go_op ?_
  | with_reducible refine' go_seq ?_
  | with_reducible refine' go_asg ?_
  | with_reducible refine' go_name ?_
  | with_reducible refine' go_cons ?_
  | with_reducible refine' go_nil ?_
  | with_reducible refine' go_cb ?_
  | with_reducible refine' go_call ?_
  | with_reducible refine' go_ifS ?_
  | with_reducible refine' go_test ?_
  | with_reducible refine' go_bl ?_
  | with_reducible refine' go_ret ?_
  | with_reducible refine' go_I0 ?_
  | ((with_reducible refine' go_I ?cc ?_); (case cc => walk_at "side"))
  | ((with_reducible refine' go_ixL ?hh ?hk ?_); (case hh => walk_at "heap"); (case hk => walk_at "item"))
  | ((with_reducible refine' go_ixT ?hh ?hk ?_); (case hh => walk_at "heap"); (case hk => walk_at "item"))
  | ((with_reducible refine' go_lenL ?hh ?_); (case hh => walk_at "heap"))
  | ((with_reducible refine' go_lenT ?hh ?_); (case hh => walk_at "heap"))
  | ((with_reducible refine' go_setL ?hh ?hk ?_); (case hh => walk_at "heap"); (case hk => walk_at "item"))
  | with_reducible refine' go_abs ?_
  | with_reducible refine' go_max ?_
  | with_reducible refine' go_min ?_
  | with_reducible refine' go_int ?_
  | with_reducible refine' go_intB ?_
  | (with_reducible refine' go_eq rfl ?_)
  | (with_reducible refine' go_ne rfl ?_)
  | with_reducible refine' go_isN ?_
  | with_reducible refine' go_notN ?_
  | with_reducible refine' go_if ?_
  | with_reducible refine' go_sub ?_
  | with_reducible refine' go_par ?_
  | with_reducible refine' go_sl ?_
  | with_reducible refine' go_part ?_
  | with_reducible refine' go_pint ?_
  | with_reducible refine' go_nopart ?_
  | ((with_reducible refine' go_lenL ?hh ?_); (case hh => walk_at "heap"))
  | ((with_reducible refine' go_lenT ?hh ?_); (case hh => walk_at "heap"))
  | ((with_reducible refine' go_lenS ?hh ?_); (case hh => assumption))
  | with_reducible refine' go_gcons ?_
  | with_reducible refine' go_gnil ?_
  | with_reducible refine' go_kw ?_
  | with_reducible refine' go_par2 ?_
  | with_reducible refine' go_next ?_
  | with_reducible refine' go_drop ?_
  | with_reducible refine' go_and ?_
  | with_reducible refine' go_or ?_
  | with_reducible refine' go_not ?_
  | with_reducible refine' go_B ?_
  | with_reducible refine' go_andV ?_
  | with_reducible refine' go_orV ?_
  | with_reducible refine' go_notV ?_
  | with_reducible refine' go_chain ?_
  | with_reducible refine' go_un ?_
  | with_reducible refine' go_U ?_
  | with_reducible refine' go_bm ?_
  | with_reducible refine' go_tup ?_
  | with_reducible refine' go_lst ?_
  | with_reducible refine' go_forR1 ?_
  | with_reducible refine' go_forR2 ?_
  | with_reducible refine' go_forL ?_
  | with_reducible refine' go_forT ?_
  | with_reducible refine' go_forE ?_
  | with_reducible refine' go_lcR1 ?_
  | with_reducible refine' go_lcL ?_
  | with_reducible refine' go_lcT ?_
  | ((with_reducible refine' go_tyL ?hh ?_); (case hh => walk_at "heap"))
  | ((with_reducible refine' go_new ?hz ?_); (case hz => exact Nat.le_of_ble_eq_true rfl))
  | (with_reducible refine' ⟨_, rfl, ?_⟩)
  ))
--MACEND
theorem go_eqT {K : PySem.W.Frag} {H : Hp} {Q : VK} {x y : V} {d e : PyData} (h1 : Dq H x d) (h2 : Dq H y e) (s1 : SeqAt.shaped d = true) (s2 : SeqAt.shaped e = true) (he : PyData.eqv d e = true) (q : Q (.bl true) H) : rEqD K x y H Q :=
  go_eqD h1 h2 s1 s2 (by rw [he]; exact q)
def row0 : Sx := ⟨0, some 1, 1, 1⟩
def row1 : Sx := ⟨1, some 3, 2, -1⟩
def row2 : Sx := ⟨3, some 5, 0, 1⟩
def row3 : Sx := ⟨5, some 7, 2, -1⟩
def rowsL : List Sx := [row0, row1, row2, row3]
def ptS (t : Sx) : Int × Option Int × Int × Int := (t.lo, t.hi, t.num, t.way)
theorem pt_inj {t u : Sx} (h : ptS t = ptS u) : t = u := by
  cases t
  cases u
  simp only [ptS, Prod.mk.injEq] at h
  obtain ⟨h1, h2, h3, h4⟩ := h
  subst h1 h2 h3 h4
  rfl
theorem nth_of {o : Option Sx} {t : Sx} (h : o.map ptS = some (ptS t)) : o = some t := by
  cases o with
  | none => cases h
  | some u => exact congrArg some (pt_inj (Option.some.inj h))
theorem told_rows : ∀ i : Nat, i < 4 → nthS (some 4) (slopesOf 0 [.mix 5, .mix 2]) (i : Nat) = rowsL[i]? := fun i hi => by
  rcases (by omega : i = 0 ∨ i = 1 ∨ i = 2 ∨ i = 3) with rfl | rfl | rfl | rfl
  · exact nth_of (t := row0) (by decide +kernel)
  · exact nth_of (t := row1) (by decide +kernel)
  · exact nth_of (t := row2) (by decide +kernel)
  · exact nth_of (t := row3) (by decide +kernel)
theorem at_none : slopesAtL (some 5) (slopesOf 0 [.mix 5, .mix 2]) 0 = [] := List.length_eq_zero_iff.mp (by decide +kernel)
theorem rc_two {rate : Option Int} (hr : ∀ q, rate = some q → 2 ≤ q ∧ q ≤ 10 ^ 39) : Rc 0 [.mix 5, .mix 2] rate := by
  refine ⟨⟨by simp, by simp, fun s hs => ?_, by simp [dials, Stg.isDial], hr⟩, by decide +kernel⟩
  simp only [List.mem_cons, List.not_mem_nil, or_false] at hs
  rcases hs with rfl | rfl <;> exact ⟨by decide, by decide +kernel⟩
theorem dq_two {H : Hp} {t u l b : Addr} {r : Option Int} (h1 : H t = some (.tup (Stg.mix 5).vals)) (h1' : H u = some (.tup (Stg.mix 2).vals)) (h2 : H l = some (.lst [.ref t, .ref u])) (h3 : H b = some (.tup [.ref l, optV r])) : Dq H (.ref b) (radD [.mix 5, .mix 2] r) :=
  .tup (.inl h3) (.cons (.lst (.inl h2) (.cons (.tup (.inl h1) (.cons (.str _) (.cons (.int _) .nil))) (.cons (.tup (.inl h1') (.cons (.str _) (.cons (.int _) .nil))) .nil))) (.cons (dq_rate _ _) .nil))
def spLaw (K : PySem.W.Frag) : Sp := fun vs H Q _ => ∃ (a : Addr) (ns : List Int), vs = [.ref a] ∧ ns.length ≤ 100000 ∧ SqL K H a (ns.map V.int) ∧ ∀ H', Q (.bl true) H'
section
variable {P : Program} {w : World} {K : PySem.W.Frag} {mg : Str → Option Value} {base : Heap} {CR CD CN CS : Addr}
abbrev s_law : Stmt := top 55
theorem sc_law : FnScope ["script", "at", "jar", "lap", "top", "radio", "tuned", "last", "rows", "told", "spot"] ["script"] (defScope s_law) := ⟨rfl, rfl, rfl, by decide +kernel, rfl, by decide +kernel, by decide +kernel⟩
theorem ok_law {f : Addr} {fd : FuncData} (F : Fun K "law" "law" s_law f fd) (m_range : mg "range" = none) (m_max : mg "max" = none) (m_min : mg "min" = none) (m_len : mg "len" = none)
    (h__law_jar : Has P w K mg base 1 "_law_jar" (spJar K)) (h__law_pick : Has P w K mg base 1 "_law_pick" spPick) (h__law_radio : Has P w K mg base 2 "_law_radio" spRadio) (h__law_end : Has P w K mg base 1 "_law_end" spEnd)
    (h__law_mixed_right : HasG P w K mg base 7 "_law_mixed_right" spMixR) (h__law_plain_right : HasG P w K mg base 8 "_law_plain_right" spPlain) (h__law_sampled_right : HasG P w K mg base 8 "_law_sampled_right" spSamp)
    (h_slopes_at : HasX P w K mg base 7 "slopes_at" (spAtE CR CD CS)) (h_nth_slope : HasX P w K mg base 7 "nth_slope" (spNthE CR CD CN)) :
    FnG P w K mg base CX0 9 f fd ["script"] (spLaw K) := by
  refine okG F sc_law (fun vs H Q E h => ?_) (fun cdv A outer s H vs Q E hgd hr h => ?_)
  · obtain ⟨a, ns, rfl, _⟩ := h
    rfl
  · obtain ⟨a, ns, rfl, hlen, hS, k⟩ := h
    refine ⟨_, PSs.nox ((pss_cons (ps_for PassesOwn.never rfl (pi_range1 (by rfl) m_range (pa_cons (pe_callB (call_maxQ rfl) rfl m_max boot_max (pa_cons pe_int (pa_cons (pe_callB (call_minQ rfl) rfl m_min boot_min (pa_cons pe_int (pa_cons (pe_callB call_lenQ rfl m_len PySem.boot_len (pa_cons (pv 0) pa_nil)) pa_nil))) pa_nil))) pa_nil)) (pg_name (i := 1) sc_law.nd rfl (Or.inl rfl))
  (pss_cons (ps_set (i := 2) sc_law.nd rfl (Or.inl rfl) (pe_hs h__law_jar hr rfl (pa_cons (pv 0) (pa_cons (pv 1) pa_nil))))
  (pss_one (ps_for PassesOwn.never rfl (pi_range1 (by rfl) m_range (pa_cons pe_int pa_nil)) (pg_name (i := 3) sc_law.nd rfl (Or.inl rfl))
  (pss_cons (ps_set (i := 4) sc_law.nd rfl (Or.inl rfl) (pe_ix ix_list (pe_lst (pa_cons pe_int (pa_cons pe_int (pa_cons pe_int pa_nil)))) (pe_hs h__law_pick hr rfl (pa_cons (pv 2) (pa_cons pe_int pa_nil))) (fun _ _ => rfl)))
  (pss_cons (ps_par (i := 5) (j := 6) (by rfl) sc_law.nd rfl rfl (by decide) rfl rfl (pa_cons (pe_hs h__law_radio hr rfl (pa_cons (pv 2) (pa_cons (pe_ix ix_list (pe_lst (pa_cons pe_int (pa_cons pe_int pa_nil))) (pe_hs h__law_pick hr rfl (pa_cons (pv 2) (pa_cons pe_int pa_nil))) (fun _ _ => rfl)) (pa_cons (pv 4) pa_nil)))) (pa_cons (pe_op op_sub (pe_hs h__law_pick hr rfl (pa_cons (pv 2) (pa_cons (pe_op op_mul pe_int (pv 4)) pa_nil))) (pe_op op_mul pe_int (pv 4))) pa_nil)) (by rfl))
  (pss_cons (ps_set (i := 7) sc_law.nd rfl (Or.inl rfl) (pe_op op_add (pe_callB (call_minQ rfl) rfl m_min boot_min (pa_cons (pe_hs h__law_end hr rfl (pa_cons (pv 5) (pa_cons (pv 6) pa_nil))) (pa_cons pe_int pa_nil))) (pe_ifExp (pt_cmpR op_notN1 (pe_ix ix_tup (pv 5) pe_int (fun _ _ => rfl)) pe_non (nomark _)) (pe_op op_mul pe_int (pe_ix ix_tup (pv 5) pe_int (fun _ _ => rfl))) pe_int)))
  (pss_cons (ps_if (PW.pt (pw_and (pt_cmpR op_le (pe_hs h__law_end hr rfl (pa_cons (pv 5) (pa_cons (pv 6) pa_nil))) pe_int (nomark _)) (pw_and1 (pt_not (pt_val (pe_hsG h__law_mixed_right hgd hr rfl (pa_cons (pv 5) (pa_cons (pv 6) (pa_cons (pe_hs h__law_end hr rfl (pa_cons (pv 5) (pa_cons (pv 6) pa_nil))) pa_nil)))))))))
  (pss_one (ps_ret pe_bl))
  pss_nil)
  (pss_cons (ps_if (PW.pt (pw_and (pt_cmpR op_isN1 (pe_ix ix_tup (pv 5) pe_int (fun _ _ => rfl)) pe_non (nomark _)) (pw_and (pt_cmpR op_le (pe_hs h__law_end hr rfl (pa_cons (pv 5) (pa_cons (pv 6) pa_nil))) pe_int (nomark _)) (pw_and1 (pt_not (pt_val (pe_hsG h__law_plain_right hgd hr rfl (pa_cons (pv 2) (pa_cons (pv 5) (pa_cons (pv 6) (pa_cons (pv 7) pa_nil)))))))))))
  (pss_one (ps_ret pe_bl))
  pss_nil)
  (pss_one (ps_if (PW.pt (pw_and (pt_cmpR op_notN1 (pe_ix ix_tup (pv 5) pe_int (fun _ _ => rfl)) pe_non (nomark _)) (pw_and1 (pt_not (pt_val (pe_hsG h__law_sampled_right hgd hr rfl (pa_cons (pv 2) (pa_cons (pv 5) (pa_cons (pv 6) (pa_cons (pv 7) pa_nil))))))))))
  (pss_one (ps_ret pe_bl))
  pss_nil)))))))))))
  (pss_cons (ps_set (i := 8) sc_law.nd rfl (Or.inl rfl) (pe_lst (pa_cons (pe_tup (pa_cons pe_int (pa_cons pe_int (pa_cons pe_int (pa_cons pe_int pa_nil))))) (pa_cons (pe_tup (pa_cons pe_int (pa_cons pe_int (pa_cons pe_int (pa_cons (pe_un un_neg pe_int) pa_nil))))) (pa_cons (pe_tup (pa_cons pe_int (pa_cons pe_int (pa_cons pe_int (pa_cons pe_int pa_nil))))) (pa_cons (pe_tup (pa_cons pe_int (pa_cons pe_int (pa_cons pe_int (pa_cons (pe_un un_neg pe_int) pa_nil))))) pa_nil))))))
  (pss_cons (ps_setLc (i := 9) (own := [("spot", 10)]) (g := gName 10) (by rfl) sc_law.nd rfl rfl (sw_true rfl rfl rfl (by decide +kernel)) (pi_range1 (by rfl) m_range (pa_cons pe_int pa_nil)) (blkOk_by (own := [("spot", 10)]) (N := ["script", "at", "jar", "lap", "top", "radio", "tuned", "last", "rows", "told", "spot"]) (sc := defScope s_law) (by decide +kernel)) (fun _ _ _ _ _ => pg_name (i := 10) (sc_law).nd rfl (Or.inl rfl)) (fun _ _ _ _ _ => pts_nil) (fun _ _ _ _ _ => (pe_hs0X h_nth_slope hr rfl (pa_cons (pe_tup (pa_cons (pe_lst (pa_cons (pe_tup (pa_cons pe_str (pa_cons pe_int pa_nil))) (pa_cons (pe_tup (pa_cons pe_str (pa_cons pe_int pa_nil))) pa_nil))) (pa_cons pe_int pa_nil))) (pa_cons pe_int (pa_cons (pv 10) pa_nil))))))
  (pss_one (ps_ret (pe_and (pe_cmpR (op_eqD hr.units) (pv 9) (pv 8) (nomark _)) (pe_one (pe_cmpR (op_eqD hr.units) (pe_hs0X h_slopes_at hr rfl (pa_cons (pe_tup (pa_cons (pe_lst (pa_cons (pe_tup (pa_cons pe_str (pa_cons pe_int pa_nil))) (pa_cons (pe_tup (pa_cons pe_str (pa_cons pe_int pa_nil))) pa_nil))) (pa_cons pe_int pa_nil))) (pa_cons pe_int (pa_cons pe_int pa_nil)))) (pe_lst pa_nil) (nomark _)))))))))), ?_⟩
    walk_at "rd"
    generalize hm : (if (if ((ns.map V.int).length : Int) < 4 then ((ns.map V.int).length : Int) else 4) > 1 then (if ((ns.map V.int).length : Int) < 4 then ((ns.map V.int).length : Int) else 4) else 1) = m
    have m15 : 1 ≤ m ∧ m ≤ 4 := by
      rw [← hm]
      constructor <;> (repeat' split) <;> omega
    refine ⟨by omega, by omega, ?_⟩
    refine run_forR (fun i σ G => ∃ v1 v2 v3 v4 v5 v6 v7 : Option V, σ = [some (.ref a), v1, v2, v3, v4, v5, v6, v7, none, none, none] ∧ Ex H G) ?_ ?_ ?_
    · exact ⟨_, _, _, _, _, _, _, rfl, Ex.refl _⟩
    · rintro i σ G hi ⟨v1, v2, v3, v4, v5, v6, v7, rfl, eG⟩
      walk_at "rd"
      refine ⟨a, ns, i, by simp, Evl.ex_l eG hS, by omega, fun j G1 hj e1 hJ => ?_⟩
      have hjH : H j = none := Evl.fresh_back eG hj
      have eG1 := eG.trans e1
      walk_at "rd"
      refine ⟨by decide, by decide, ?_⟩
      refine run_forR (fun i' σ G => ∃ v3 v4 v5 v6 v7 : Option V, σ = [some (.ref a), some (.int (0 + (i : Int))), some (.ref j), v3, v4, v5, v6, v7, none, none, none] ∧ JarAt (300 * i') G j ∧ Jx [j] H G) ?_ ?_ ?_
      · exact ⟨_, _, _, _, _, rfl, hJ.mono (by omega), Jx.of eG1⟩
      · clear hJ eG1 e1 eG hj
        rintro i' σ G hi' ⟨v3, v4, v5, v6, v7, rfl, hJ, X⟩
        have hi6 : i' < 3 := by omega
        walk_at "rd"
        intro lq hlq
        have lqj : lq ≠ j := fresh_ne hJ.obj.choose_spec hlq
        walk_at "rd"
        refine pick_go (hJ.keep (upd_ne lqj.symm)) (by omega) (by decide) (by decide) fun z1 G1 z10 z11 J1 y1 => ?_
        obtain ⟨top, htop, tb⟩ : ∃ t : Int, atI [V.int 3, .int 6, .int 12] z1 = some (.int t) ∧ 3 ≤ t ∧ t ≤ 12 := by
          rcases (by omega : z1 = 0 ∨ z1 = 1 ∨ z1 = 2) with rfl | rfl | rfl
          · exact ⟨3, rfl, by decide, by decide⟩
          · exact ⟨6, rfl, by decide, by decide⟩
          · exact ⟨12, rfl, by decide, by decide⟩
        refine go_ixL (.inl (y1.get upd_same (nin1 lqj))) htop ?_
        have x1 := X.tr ((Jx.new hlq).tr y1)
        walk_at "rd"
        intro l2 hl2
        have l2j : l2 ≠ j := fresh_ne J1.obj.choose_spec hl2
        walk_at "rd"
        refine pick_go (J1.keep (upd_ne l2j.symm)) (by omega) (by decide) (by decide) fun z2 G2 z20 z21 J2 y2 => ?_
        obtain ⟨most, hmost, mb⟩ : ∃ t : Int, atI [V.int 8, .int 3] z2 = some (.int t) ∧ 1 ≤ t ∧ t ≤ 8 := by
          rcases (by omega : z2 = 0 ∨ z2 = 1) with rfl | rfl
          · exact ⟨8, rfl, by decide, by decide⟩
          · exact ⟨3, rfl, by decide, by decide⟩
        refine go_ixL (.inl (y2.get upd_same (nin1 l2j))) hmost ?_
        have x2 := x1.tr ((Jx.new hl2).tr y2)
        clear y1 y2 hlq hl2
        walk_at "rd"
        refine ⟨j, most, top, _, rfl, J2, by omega, mb.1, mb.2, by omega, Int.lt_of_le_of_lt tb.2 (by decide +kernel), fun p ss rate G3 R _ dR _ J3 y3 => ?_⟩
        walk_at "rd"
        refine pick_go J3 (by omega) (by omega) (Int.lt_of_le_of_lt (show 4 * top ≤ 48 by omega) (by decide +kernel)) fun u G4 u0 u1 J4 y4 => ?_
        have x4 := (x2.tr y3).tr y4
        have dj4 : Dq (hid [j] G4) (.ref p) (radD ss rate) := y4.dq dR
        have C : Rc (u - 2 * top) ss rate := ⟨R.mono (Int.le_trans (show 10 * top + 20 ≤ 1000 by omega) (by decide +kernel)), Nat.le_trans (show (u - 2 * top).natAbs ≤ 1000 by omega) (by decide +kernel)⟩
        have rb : ∀ r, rate = some r → 2 ≤ r ∧ r ≤ 140 := fun r h => by
          have := R.rate r h
          omega
        have fge := end_ge (u - 2 * top) ss
        obtain ⟨pa, pxs, epa, hpa, hda⟩ := dj4.tupleAt
        cases epa
        obtain ⟨w1, w2, d1, d2, rfl, ed, hw1, hw2⟩ := dqa2 hda rfl
        obtain ⟨rfl, rfl⟩ : PyData.list (ss.map Stg.d) = d1 ∧ rateD rate = d2 := by simpa using ed
        have rp : ∀ {G : Hp}, Jx [j] G4 G → Rd G p (.tup [w1, w2]) := fun {G} y => Evl.ex_rd hid_ex (Evl.ex_rd y hpa)
        have dp : ∀ {G : Hp}, Jx [j] G4 G → Dq G (.ref p) (radD ss rate) := fun {G} y => (y.dq dj4).ex hid_ex
        have en : ∀ {G : Hp} {Q : VK} {E : XK}, Jx [j] G4 G → (∀ G', Ex G G' → Q (.int (finOf (u - 2 * top) ss)) G') → spEnd [.ref p, .int (u - 2 * top)] G Q E := fun {G Q E} y h => ⟨.ref p, u - 2 * top, _, ss, rate, rfl, dp y, R, h⟩
        have cm : CMul 2 top := by unfold CMul; omega
        walk_at "rd"
        refine en (Jx.refl _) fun G5 e5 => ?_
        have y5 : Jx [j] G4 G5 := Jx.of e5
        have r5 := rp y5
        walk_at "rd"
        generalize hlast : (if (400 : Int) < finOf (u - 2 * top) ss then (400 : Int) else finOf (u - 2 * top) ss) = last
        have lb : 3 ≤ last ∧ last ≤ 400 := by
          rw [← hlast]
          split <;> omega
        cases rate with
        | none =>
          cases hw2
          refine iteF ?_
          walk_at "rd"
          rw [Int.add_zero]
          refine en y5 fun G6 e6 => ?_
          have y6 := y5.tr (Jx.of e6)
          have r6 := rp y6
          have J6 := jar_ex (e5.trans e6) J4
          walk_at "rd"
          refine ite2 (fun c => ?_) (fun c => ?_)
          · have c' : finOf (u - 2 * top) ss ≤ 400 := of_decide_eq_true c
            walk_at "rd"
            refine en y6 fun G7 e7 => ?_
            have y7 := y6.tr (Jx.of e7)
            walk_at "rd"
            refine ⟨.ref p, u - 2 * top, ss, none, rfl, dp y7, C, c', fun G8 e8 => ?_⟩
            have y8 := y7.tr (Jx.of e8)
            have r8 := rp y8
            have J8 := jar_ex (e7.trans e8) J6
            walk_at "rd"
            refine iteF ?_
            walk_at "rd"
            refine iteT ?_
            walk_at "rd"
            refine en y8 fun G9 e9 => ?_
            have y9 := y8.tr (Jx.of e9)
            have r9 := rp y9
            walk_at "rd"
            refine ite2 (fun _ => ?_) (fun z => absurd c z)
            walk_at "rd"
            refine ⟨j, _, .ref p, u - 2 * top, last, ss, rfl, jar_ex e9 J8, by omega, y9.dq dj4, C, c', by omega, by omega, fun G10 J10 yy => ?_⟩
            have y10 := y9.tr yy
            have r10 := rp y10
            walk_at "rd"
            refine iteF ?_
            walk_at "rd"
            refine iteF ?_
            walk_at "rd"
            exact ⟨_, _, _, _, _, rfl, J10.mono (by omega), x4.tr y10⟩
          · refine iteF ?_
            walk_at "rd"
            refine iteT ?_
            walk_at "rd"
            refine en y6 fun G9 e9 => ?_
            have y9 := y6.tr (Jx.of e9)
            have r9 := rp y9
            walk_at "rd"
            refine ite2 (fun z => absurd z c) (fun _ => ?_)
            refine iteF ?_
            walk_at "rd"
            refine iteF ?_
            walk_at "rd"
            exact ⟨_, _, _, _, _, rfl, (jar_ex e9 J6).mono (by omega), x4.tr y9⟩
        | some r =>
          cases hw2
          obtain ⟨rb1, rb2⟩ := rb r rfl
          have cm2 : CMul 3 r := by unfold CMul; omega
          refine iteT ?_
          walk_at "rd"
          refine en y5 fun G6 e6 => ?_
          have y6 := y5.tr (Jx.of e6)
          have r6 := rp y6
          have J6 := jar_ex (e5.trans e6) J4
          walk_at "rd"
          refine ite2 (fun c => ?_) (fun c => ?_)
          · have c' : finOf (u - 2 * top) ss ≤ 400 := of_decide_eq_true c
            walk_at "rd"
            refine en y6 fun G7 e7 => ?_
            have y7 := y6.tr (Jx.of e7)
            walk_at "rd"
            refine ⟨.ref p, u - 2 * top, ss, some r, rfl, dp y7, C, c', fun G8 e8 => ?_⟩
            have y8 := y7.tr (Jx.of e8)
            have r8 := rp y8
            have J8 := jar_ex (e7.trans e8) J6
            walk_at "rd"
            refine iteF ?_
            walk_at "rd"
            refine iteF (iteF ?_)
            walk_at "rd"
            refine iteT ?_
            walk_at "rd"
            refine ⟨j, _, .ref p, u - 2 * top, last + 3 * r, r, ss, rfl, J8, by omega, y8.dq dj4, C, by omega, by omega, fun G10 J10 yy => ?_⟩
            have y10 := y8.tr yy
            walk_at "rd"
            refine iteF ?_
            walk_at "rd"
            exact ⟨_, _, _, _, _, rfl, J10.mono (by omega), x4.tr y10⟩
          · refine iteF ?_
            walk_at "rd"
            refine iteF (iteF ?_)
            walk_at "rd"
            refine iteT ?_
            walk_at "rd"
            refine ⟨j, _, .ref p, u - 2 * top, last + 3 * r, r, ss, rfl, J6, by omega, y6.dq dj4, C, by omega, by omega, fun G10 J10 yy => ?_⟩
            have y10 := y6.tr yy
            walk_at "rd"
            refine iteF ?_
            walk_at "rd"
            exact ⟨_, _, _, _, _, rfl, J10.mono (by omega), x4.tr y10⟩
      · rintro σ G ⟨v3, v4, v5, v6, v7, rfl, hJ, X⟩
        walk_at "rd"
        refine ⟨_, _, _, _, _, _, _, rfl, fun b o q => ?_⟩
        have hb : b ≠ j := fun z => by rw [z, hjH] at q; cases q
        exact X.get q (nin1 hb)
    · rintro σ G ⟨v1, v2, v3, v4, v5, v6, v7, rfl, eG⟩
      walk_at "rd"
      intro r1 hr1
      walk_at "rd"
      intro r2 hr2
      walk_at "rd"
      intro r3 hr3
      walk_at "rd"
      intro r4 hr4
      walk_at "rd"
      intro rl hrl
      have g1 := Ex.new (o := HO.tup row0.v) hr1
      have g2 := Ex.new (o := HO.tup row1.v) hr2
      have g3 := Ex.new (o := HO.tup row2.v) hr3
      have g4 := Ex.new (o := HO.tup row3.v) hr4
      have g5 := Ex.new (o := HO.lst [.ref r1, .ref r2, .ref r3, .ref r4]) hrl
      have dR : Dq _ (.ref rl) (.list ([row0, row1, row2, row3].map sxD)) := .lst (.inl upd_same) (.cons (Tx.dq ⟨r1, rfl, (((g2.trans g3).trans g4).trans g5) _ _ upd_same⟩) (.cons (Tx.dq ⟨r2, rfl, ((g3.trans g4).trans g5) _ _ upd_same⟩)
        (.cons (Tx.dq ⟨r3, rfl, (g4.trans g5) _ _ upd_same⟩) (.cons (Tx.dq ⟨r4, rfl, g5 _ _ upd_same⟩) .nil))))
      revert dR
      show Dq (upd _ rl (.lst [.ref r1, .ref r2, .ref r3, .ref r4])) _ _ → gName 8 _ _ (upd _ rl (.lst [.ref r1, .ref r2, .ref r3, .ref r4])) _
      generalize upd _ rl (HO.lst [V.ref r1, .ref r2, .ref r3, .ref r4]) = T
      intro dR
      walk_at "rd"
      refine ⟨by decide, by decide, ?_⟩
      refine run_lcR (fun D i G => T D = none ∧ Ex T G ∧ ∃ acc, G D = some (.lst acc) ∧ Txs G acc (rowsL.take i)) ?_ ?_ ?_
      · exact fun D hD => ⟨hD, Ex.new hD, [], upd_same, .nil⟩
      · rintro D i G hi ⟨hDn, e, acc, hD, hA⟩
        have i4 : i < 4 := hi
        walk_at "rd"
        refine ⟨rfl, go_yes (iteT ?_)⟩
        walk_at "rd"
        intro b1 hb1
        walk_at "rd"
        intro b2 hb2
        walk_at "rd"
        intro b3 hb3
        walk_at "rd"
        intro b4 hb4
        have g1 := Ex.new (o := HO.tup (Stg.mix 5).vals) hb1
        have g2 := Ex.new (o := HO.tup (Stg.mix 2).vals) hb2
        have g3 := Ex.new (o := HO.lst [.ref b1, .ref b2]) hb3
        have g4 := Ex.new (o := HO.tup [.ref b3, optV (some 4)]) hb4
        have d2 : Dq _ (.ref b4) (radD [.mix 5, .mix 2] (some 4)) := dq_two (((g2.trans g3).trans g4) _ _ upd_same) ((g3.trans g4) _ _ upd_same) (g4 _ _ upd_same) upd_same
        have C2 : Rc 0 [.mix 5, .mix 2] (some 4) := rc_two fun r h => (by cases h; exact ⟨by decide, by decide +kernel⟩)
        have gg := ((g1.trans g2).trans g3).trans g4
        walk_at "rd"
        refine go_nthO d2 C2 (by omega) (Nat.lt_of_le_of_lt (show ((0 : Int) + (i : Int)).natAbs ≤ 4 by omega) (by decide +kernel)) fun v' G7 e7 ho => ?_
        rw [Int.zero_add, told_rows i i4] at ho
        obtain ⟨t, ht⟩ : ∃ t, rowsL[i]? = some t := ⟨rowsL[i]'i4, List.getElem?_eq_getElem i4⟩
        rw [ht] at ho
        have ge := gg.trans e7
        refine ⟨acc, ge _ _ hD, ?_, hDn, Ex.mut (e.trans ge) hDn, acc ++ [v'], upd_same, ?_⟩
        · rw [hA.len, List.length_take]
          exact Nat.lt_of_le_of_lt (Nat.min_le_left _ _) (Nat.lt_of_lt_of_le i4 (by decide))
        · rw [List.take_succ, ht]
          exact ((hA.ex ge).mut (ge _ _ hD)).snoc (Tx.mut (ge _ _ hD) ho)
      rintro D G hDn ⟨_, e, acc, hD, hA⟩
      have hA : Txs G acc [row0, row1, row2, row3] := hA
      walk_at "rd"
      refine go_eqT (.lst (.inl hD) hA.dqa) (dR.ex e) (shaped_sxs _) (shaped_sxs _) (eqv_lsx _) ?_
      walk_at "rd"
      refine iteT ?_
      walk_at "rd"
      intro b1 hb1
      walk_at "rd"
      intro b2 hb2
      walk_at "rd"
      intro b3 hb3
      walk_at "rd"
      intro b4 hb4
      have g1 := Ex.new (o := HO.tup (Stg.mix 5).vals) hb1
      have g2 := Ex.new (o := HO.tup (Stg.mix 2).vals) hb2
      have g3 := Ex.new (o := HO.lst [.ref b1, .ref b2]) hb3
      have g4 := Ex.new (o := HO.tup [.ref b3, optV (some 5)]) hb4
      have d2 : Dq _ (.ref b4) (radD [.mix 5, .mix 2] (some 5)) := dq_two (((g2.trans g3).trans g4) _ _ upd_same) ((g3.trans g4) _ _ upd_same) (g4 _ _ upd_same) upd_same
      have C2 : Rc 0 [.mix 5, .mix 2] (some 5) := rc_two fun r h => (by cases h; exact ⟨by decide, by decide +kernel⟩)
      walk_at "rd"
      refine go_at d2 C2 (by decide) (by decide +kernel) fun q G7 qn e7 hL => ?_
      rw [at_none] at hL
      obtain ⟨us, hu, hU⟩ := hL
      walk_at "rd"
      intro p9 hp9
      have x9 := Ex.new (o := HO.lst []) hp9
      refine go_eqT (d := .list ([].map sxD)) (.lst (.inl (x9 _ _ hu)) (hU.ex x9).dqa) (.lst (.inl upd_same) .nil) (by decide +kernel) (by decide +kernel) (by decide +kernel) ?_
      exact k _
end
end Kx

set_option Elab.async false
set_option linter.all false
set_option maxRecDepth 100000
set_option maxHeartbeats 2000000
namespace Kx
open PySem PySem.Spec PyProof.Rows L2 HX
open Evl (Ex)
theorem vals_rev2 {zs : List V} {ws : List Value} (h : Vals zs ws) : Vals (rev2 zs) (rev2 ws) := by
  cases h with
  | nil => exact .nil
  | cons a h => cases h with
    | nil => exact .cons a .nil
    | cons b h => cases h with
      | nil => exact .cons b (.cons a .nil)
      | cons c h => exact .cons a (.cons b (.cons c h))
theorem vals_rev3 {zs : List V} {ws : List Value} (h : Vals zs ws) : Vals (rev3 zs) (rev3 ws) := by
  cases h with
  | nil => exact .nil
  | cons a h => cases h with
    | nil => exact .cons a .nil
    | cons b h => cases h with
      | nil => exact .cons a (.cons b .nil)
      | cons c h => cases h with
        | nil => exact .cons c (.cons b (.cons a .nil))
        | cons d h => exact .cons a (.cons b (.cons c (.cons d h)))
theorem all_mk {P : Program} {w : World} {K : PySem.W.Frag} {h : Heap} {mg : Str → Option Value} {fa f1 f2 f3 f4 f5 f6 f7 f8 f9 f10 f11 f12 f13 f14 f15 f16 f17 f18 f19 f20 f21 f22 f23 f24 f25 f26 f27 f28 f29 f30 f31 f32 f33 f34 f35 f36 f37 f38 f39 f40 f41 f42 : Addr} {od1 an1 od2 an2 od3 an3 od4 an4 od5 an5 od6 an6 od7 an7 od8 an8 od9 an9 od10 an10 od11 an11 od12 an12 od13 an13 od14 an14 od15 an15 od16 an16 od17 an17 od18 an18 od19 an19 od20 an20 od21 an21 od22 an22 od23 an23 od24 an24 od25 an25 od26 an26 od27 an27 od28 an28 od29 an29 od30 an30 od31 an31 od32 an32 od33 an33 od34 an34 od35 an35 od36 an36 od37 an37 od38 an38 od39 an39 od40 an40 od41 an41 od42 an42 : Option Addr} {sl1 sl2 sl3 sl4 sl5 sl6 sl7 sl8 sl9 sl10 sl11 sl12 sl13 sl14 sl15 sl16 sl17 sl18 sl19 sl20 sl21 sl22 sl23 sl24 sl25 sl26 sl27 sl28 sl29 sl30 sl31 sl32 sl33 sl34 sl35 sl36 sl37 sl38 sl39 sl40 sl41 sl42 : Array (Option Value)} {oc1 kV1 dc1 pm1 cd1 ct1 oc2 kV2 dc2 pm2 cd2 ct2 oc3 kV3 dc3 pm3 cd3 ct3 oc4 kV4 dc4 pm4 cd4 ct4 oc5 kV5 dc5 pm5 cd5 ct5 oc6 kV6 dc6 pm6 cd6 ct6 oc7 kV7 dc7 pm7 cd7 ct7 oc8 kV8 dc8 pm8 cd8 ct8 oc9 kV9 dc9 pm9 cd9 ct9 oc10 kV10 dc10 pm10 cd10 ct10 oc11 kV11 dc11 pm11 cd11 ct11 oc12 kV12 dc12 pm12 cd12 ct12 oc13 kV13 dc13 pm13 cd13 ct13 oc14 kV14 dc14 pm14 cd14 ct14 oc15 kV15 dc15 pm15 cd15 ct15 oc16 kV16 dc16 pm16 cd16 ct16 oc17 kV17 dc17 pm17 cd17 ct17 oc18 kV18 dc18 pm18 cd18 ct18 oc19 kV19 dc19 pm19 cd19 ct19 oc20 kV20 dc20 pm20 cd20 ct20 oc21 kV21 dc21 pm21 cd21 ct21 oc22 kV22 dc22 pm22 cd22 ct22 oc23 kV23 dc23 pm23 cd23 ct23 oc24 kV24 dc24 pm24 cd24 ct24 oc25 kV25 dc25 pm25 cd25 ct25 oc26 kV26 dc26 pm26 cd26 ct26 oc27 kV27 dc27 pm27 cd27 ct27 oc28 kV28 dc28 pm28 cd28 ct28 oc29 kV29 dc29 pm29 cd29 ct29 oc30 kV30 dc30 pm30 cd30 ct30 oc31 kV31 dc31 pm31 cd31 ct31 oc32 kV32 dc32 pm32 cd32 ct32 oc33 kV33 dc33 pm33 cd33 ct33 oc34 kV34 dc34 pm34 cd34 ct34 oc35 kV35 dc35 pm35 cd35 ct35 oc36 kV36 dc36 pm36 cd36 ct36 oc37 kV37 dc37 pm37 cd37 ct37 oc38 kV38 dc38 pm38 cd38 ct38 oc39 kV39 dc39 pm39 cd39 ct39 oc40 kV40 dc40 pm40 cd40 ct40 oc41 kV41 dc41 pm41 cd41 ct41 oc42 kV42 dc42 pm42 cd42 ct42 : Value} {t1 t2 : Tok}
    {C0 C1 C2 C3 : Addr}
    {i0 u0 v0 N0 : Addr} {nm0 qn0 q0 msg0 file0 : Str} {bs0 bm0 sub0 : List Value} {sn0 : List Str} {ab0 : Bool} {col0 : Option Bool} {dd0 eod0 ean0 cld0 dld0 : Option Addr} {m0_0 m0_1 m0_2 m0_3 m0_5 : Option Value} {eoc0 edc0 epm0 ect0 cl0 dl0 : Value} {esl0 csl0 dsl0 : Array (Option Value)} {vs0 : Array Value} {tf0 : Tok} {p1_0 p2_0 a1_0 a2_0 a3_0 a4_0 a5_0 a6_0 q1_0 q2_0 q3_0 q4_0 : Pos} (X : K.In h) (G : h.Ns mainGlobals mg) (hfa : mg "law" = some (.ref fa))
    (a1 : PySem.W.nsIn K mainGlobals "_law_jar" = some (some (.ref f1)))
    (l1 : K.lookup f1 = some ⟨oc1, od1, .func (PySem.W.fnOf "_law_jar" "_law_jar" (defArgs s__law_jar) (defBody s__law_jar) (defScope s__law_jar) .none kV1 dc1 pm1 an1 cd1 ct1), sl1⟩)
    (c1 : PySem.W.codeIn K cd1 "_law_jar" = true)
    (k1 : PySem.W.keepIn K (.ref f1) = true)
    (a2 : PySem.W.nsIn K mainGlobals "_law_pick" = some (some (.ref f2)))
    (l2 : K.lookup f2 = some ⟨oc2, od2, .func (PySem.W.fnOf "_law_pick" "_law_pick" (defArgs s__law_pick) (defBody s__law_pick) (defScope s__law_pick) .none kV2 dc2 pm2 an2 cd2 ct2), sl2⟩)
    (c2 : PySem.W.codeIn K cd2 "_law_pick" = true)
    (k2 : PySem.W.keepIn K (.ref f2) = true)
    (a3 : PySem.W.nsIn K mainGlobals "_law_radio" = some (some (.ref f3)))
    (l3 : K.lookup f3 = some ⟨oc3, od3, .func (PySem.W.fnOf "_law_radio" "_law_radio" (defArgs s__law_radio) (defBody s__law_radio) (defScope s__law_radio) .none kV3 dc3 pm3 an3 cd3 ct3), sl3⟩)
    (c3 : PySem.W.codeIn K cd3 "_law_radio" = true)
    (k3 : PySem.W.keepIn K (.ref f3) = true)
    (a4 : PySem.W.nsIn K mainGlobals "is_integer" = some (some (.ref f4)))
    (l4 : K.lookup f4 = some ⟨oc4, od4, .func (PySem.W.fnOf "is_integer" "is_integer" (defArgs s_is_integer) (defBody s_is_integer) (defScope s_is_integer) .none kV4 dc4 pm4 an4 cd4 ct4), sl4⟩)
    (c4 : PySem.W.codeIn K cd4 "is_integer" = true)
    (k4 : PySem.W.keepIn K (.ref f4) = true)
    (a5 : PySem.W.nsIn K mainGlobals "is_natural" = some (some (.ref f5)))
    (l5 : K.lookup f5 = some ⟨oc5, od5, .func (PySem.W.fnOf "is_natural" "is_natural" (defArgs s_is_natural) (defBody s_is_natural) (defScope s_is_natural) .none kV5 dc5 pm5 an5 cd5 ct5), sl5⟩)
    (c5 : PySem.W.codeIn K cd5 "is_natural" = true)
    (k5 : PySem.W.keepIn K (.ref f5) = true)
    (a6 : PySem.W.nsIn K mainGlobals "is_band" = some (some (.ref f6)))
    (l6 : K.lookup f6 = some ⟨oc6, od6, .func (PySem.W.fnOf "is_band" "is_band" (defArgs s_is_band) (defBody s_is_band) (defScope s_is_band) .none kV6 dc6 pm6 an6 cd6 ct6), sl6⟩)
    (c6 : PySem.W.codeIn K cd6 "is_band" = true)
    (k6 : PySem.W.keepIn K (.ref f6) = true)
    (a7 : PySem.W.nsIn K mainGlobals "is_stage" = some (some (.ref f7)))
    (l7 : K.lookup f7 = some ⟨oc7, od7, .func (PySem.W.fnOf "is_stage" "is_stage" (defArgs s_is_stage) (defBody s_is_stage) (defScope s_is_stage) .none kV7 dc7 pm7 an7 cd7 ct7), sl7⟩)
    (c7 : PySem.W.codeIn K cd7 "is_stage" = true)
    (k7 : PySem.W.keepIn K (.ref f7) = true)
    (a8 : PySem.W.nsIn K mainGlobals "is_rate" = some (some (.ref f8)))
    (l8 : K.lookup f8 = some ⟨oc8, od8, .func (PySem.W.fnOf "is_rate" "is_rate" (defArgs s_is_rate) (defBody s_is_rate) (defScope s_is_rate) .none kV8 dc8 pm8 an8 cd8 ct8), sl8⟩)
    (c8 : PySem.W.codeIn K cd8 "is_rate" = true)
    (k8 : PySem.W.keepIn K (.ref f8) = true)
    (a9 : PySem.W.nsIn K mainGlobals "_is_frame" = some (some (.ref f9)))
    (l9 : K.lookup f9 = some ⟨oc9, od9, .func (PySem.W.fnOf "_is_frame" "_is_frame" (defArgs s__is_frame) (defBody s__is_frame) (defScope s__is_frame) .none kV9 dc9 pm9 an9 cd9 ct9), sl9⟩)
    (c9 : PySem.W.codeIn K cd9 "_is_frame" = true)
    (k9 : PySem.W.keepIn K (.ref f9) = true)
    (a10 : PySem.W.nsIn K mainGlobals "mixing_tone" = some (some (.ref f10)))
    (l10 : K.lookup f10 = some ⟨oc10, od10, .func (PySem.W.fnOf "mixing_tone" "mixing_tone" (defArgs s_mixing_tone) (defBody s_mixing_tone) (defScope s_mixing_tone) .none kV10 dc10 pm10 an10 cd10 ct10), sl10⟩)
    (c10 : PySem.W.codeIn K cd10 "mixing_tone" = true)
    (k10 : PySem.W.keepIn K (.ref f10) = true)
    (a11 : PySem.W.nsIn K mainGlobals "behind_sampler" = some (some (.ref f11)))
    (l11 : K.lookup f11 = some ⟨oc11, od11, .func (PySem.W.fnOf "behind_sampler" "behind_sampler" (defArgs s_behind_sampler) (defBody s_behind_sampler) (defScope s_behind_sampler) .none kV11 dc11 pm11 an11 cd11 ct11), sl11⟩)
    (c11 : PySem.W.codeIn K cd11 "behind_sampler" = true)
    (k11 : PySem.W.keepIn K (.ref f11) = true)
    (a12 : PySem.W.nsIn K mainGlobals "check_receiver" = some (some (.ref f12)))
    (l12 : K.lookup f12 = some ⟨oc12, od12, .func (PySem.W.fnOf "check_receiver" "check_receiver" (defArgs s_check_receiver) (defBody s_check_receiver) (defScope s_check_receiver) .none kV12 dc12 pm12 an12 cd12 ct12), sl12⟩)
    (c12 : PySem.W.codeIn K cd12 "check_receiver" = true)
    (k12 : PySem.W.keepIn K (.ref f12) = true)
    (a13 : PySem.W.nsIn K mainGlobals "check_dial" = some (some (.ref f13)))
    (l13 : K.lookup f13 = some ⟨oc13, od13, .func (PySem.W.fnOf "check_dial" "check_dial" (defArgs s_check_dial) (defBody s_check_dial) (defScope s_check_dial) .none kV13 dc13 pm13 an13 cd13 ct13), sl13⟩)
    (c13 : PySem.W.codeIn K cd13 "check_dial" = true)
    (k13 : PySem.W.keepIn K (.ref f13) = true)
    (a14 : PySem.W.nsIn K mainGlobals "check_natural" = some (some (.ref f14)))
    (l14 : K.lookup f14 = some ⟨oc14, od14, .func (PySem.W.fnOf "check_natural" "check_natural" (defArgs s_check_natural) (defBody s_check_natural) (defScope s_check_natural) .none kV14 dc14 pm14 an14 cd14 ct14), sl14⟩)
    (c14 : PySem.W.codeIn K cd14 "check_natural" = true)
    (k14 : PySem.W.keepIn K (.ref f14) = true)
    (a15 : PySem.W.nsIn K mainGlobals "check_signal" = some (some (.ref f15)))
    (l15 : K.lookup f15 = some ⟨oc15, od15, .func (PySem.W.fnOf "check_signal" "check_signal" (defArgs s_check_signal) (defBody s_check_signal) (defScope s_check_signal) .none kV15 dc15 pm15 an15 cd15 ct15), sl15⟩)
    (c15 : PySem.W.codeIn K cd15 "check_signal" = true)
    (k15 : PySem.W.keepIn K (.ref f15) = true)
    (a16 : PySem.W.nsIn K mainGlobals "first_fold_to" = some (some (.ref f16)))
    (l16 : K.lookup f16 = some ⟨oc16, od16, .func (PySem.W.fnOf "first_fold_to" "first_fold_to" (defArgs s_first_fold_to) (defBody s_first_fold_to) (defScope s_first_fold_to) .none kV16 dc16 pm16 an16 cd16 ct16), sl16⟩)
    (c16 : PySem.W.codeIn K cd16 "first_fold_to" = true)
    (k16 : PySem.W.keepIn K (.ref f16) = true)
    (a17 : PySem.W.nsIn K mainGlobals "last_fold_from" = some (some (.ref f17)))
    (l17 : K.lookup f17 = some ⟨oc17, od17, .func (PySem.W.fnOf "last_fold_from" "last_fold_from" (defArgs s_last_fold_from) (defBody s_last_fold_from) (defScope s_last_fold_from) .none kV17 dc17 pm17 an17 cd17 ct17), sl17⟩)
    (c17 : PySem.W.codeIn K cd17 "last_fold_from" = true)
    (k17 : PySem.W.keepIn K (.ref f17) = true)
    (a18 : PySem.W.nsIn K mainGlobals "fold_way" = some (some (.ref f18)))
    (l18 : K.lookup f18 = some ⟨oc18, od18, .func (PySem.W.fnOf "fold_way" "fold_way" (defArgs s_fold_way) (defBody s_fold_way) (defScope s_fold_way) .none kV18 dc18 pm18 an18 cd18 ct18), sl18⟩)
    (c18 : PySem.W.codeIn K cd18 "fold_way" = true)
    (k18 : PySem.W.keepIn K (.ref f18) = true)
    (a19 : PySem.W.nsIn K mainGlobals "fold_ends" = some (some (.ref f19)))
    (l19 : K.lookup f19 = some ⟨oc19, od19, .func (PySem.W.fnOf "fold_ends" "fold_ends" (defArgs s_fold_ends) (defBody s_fold_ends) (defScope s_fold_ends) .none kV19 dc19 pm19 an19 cd19 ct19), sl19⟩)
    (c19 : PySem.W.codeIn K cd19 "fold_ends" = true)
    (k19 : PySem.W.keepIn K (.ref f19) = true)
    (a20 : PySem.W.nsIn K mainGlobals "signal_of" = some (some (.ref f20)))
    (l20 : K.lookup f20 = some ⟨oc20, od20, .func (PySem.W.fnOf "signal_of" "signal_of" (defArgs s_signal_of) (defBody s_signal_of) (defScope s_signal_of) .none kV20 dc20 pm20 an20 cd20 ct20), sl20⟩)
    (c20 : PySem.W.codeIn K cd20 "signal_of" = true)
    (k20 : PySem.W.keepIn K (.ref f20) = true)
    (a21 : PySem.W.nsIn K mainGlobals "cut_to_signals" = some (some (.ref f21)))
    (l21 : K.lookup f21 = some ⟨oc21, od21, .func (PySem.W.fnOf "cut_to_signals" "cut_to_signals" (defArgs s_cut_to_signals) (defBody s_cut_to_signals) (defScope s_cut_to_signals) .none kV21 dc21 pm21 an21 cd21 ct21), sl21⟩)
    (c21 : PySem.W.codeIn K cd21 "cut_to_signals" = true)
    (k21 : PySem.W.keepIn K (.ref f21) = true)
    (a22 : PySem.W.nsIn K mainGlobals "cut_to_numbers" = some (some (.ref f22)))
    (l22 : K.lookup f22 = some ⟨oc22, od22, .func (PySem.W.fnOf "cut_to_numbers" "cut_to_numbers" (defArgs s_cut_to_numbers) (defBody s_cut_to_numbers) (defScope s_cut_to_numbers) .none kV22 dc22 pm22 an22 cd22 ct22), sl22⟩)
    (c22 : PySem.W.codeIn K cd22 "cut_to_numbers" = true)
    (k22 : PySem.W.keepIn K (.ref f22) = true)
    (a23 : PySem.W.nsIn K mainGlobals "_behind_mixer" = some (some (.ref f23)))
    (l23 : K.lookup f23 = some ⟨oc23, od23, .func (PySem.W.fnOf "_behind_mixer" "_behind_mixer" (defArgs s__behind_mixer) (defBody s__behind_mixer) (defScope s__behind_mixer) .none kV23 dc23 pm23 an23 cd23 ct23), sl23⟩)
    (c23 : PySem.W.codeIn K cd23 "_behind_mixer" = true)
    (k23 : PySem.W.keepIn K (.ref f23) = true)
    (a24 : PySem.W.nsIn K mainGlobals "_behind_pass" = some (some (.ref f24)))
    (l24 : K.lookup f24 = some ⟨oc24, od24, .func (PySem.W.fnOf "_behind_pass" "_behind_pass" (defArgs s__behind_pass) (defBody s__behind_pass) (defScope s__behind_pass) .none kV24 dc24 pm24 an24 cd24 ct24), sl24⟩)
    (c24 : PySem.W.codeIn K cd24 "_behind_pass" = true)
    (k24 : PySem.W.keepIn K (.ref f24) = true)
    (a25 : PySem.W.nsIn K mainGlobals "stretches_at" = some (some (.ref f25)))
    (l25 : K.lookup f25 = some ⟨oc25, od25, .func (PySem.W.fnOf "stretches_at" "stretches_at" (defArgs s_stretches_at) (defBody s_stretches_at) (defScope s_stretches_at) .none kV25 dc25 pm25 an25 cd25 ct25), sl25⟩)
    (c25 : PySem.W.codeIn K cd25 "stretches_at" = true)
    (k25 : PySem.W.keepIn K (.ref f25) = true)
    (a26 : PySem.W.nsIn K mainGlobals "_folds_along" = some (some (.ref f26)))
    (l26 : K.lookup f26 = some ⟨oc26, od26, .func (PySem.W.fnOf "_folds_along" "_folds_along" (defArgs s__folds_along) (defBody s__folds_along) (defScope s__folds_along) .none kV26 dc26 pm26 an26 cd26 ct26), sl26⟩)
    (c26 : PySem.W.codeIn K cd26 "_folds_along" = true)
    (k26 : PySem.W.keepIn K (.ref f26) = true)
    (a27 : PySem.W.nsIn K mainGlobals "_count_made" = some (some (.ref f27)))
    (l27 : K.lookup f27 = some ⟨oc27, od27, .func (PySem.W.fnOf "_count_made" "_count_made" (defArgs s__count_made) (defBody s__count_made) (defScope s__count_made) .none kV27 dc27 pm27 an27 cd27 ct27), sl27⟩)
    (c27 : PySem.W.codeIn K cd27 "_count_made" = true)
    (k27 : PySem.W.keepIn K (.ref f27) = true)
    (a28 : PySem.W.nsIn K mainGlobals "_count_begun" = some (some (.ref f28)))
    (l28 : K.lookup f28 = some ⟨oc28, od28, .func (PySem.W.fnOf "_count_begun" "_count_begun" (defArgs s__count_begun) (defBody s__count_begun) (defScope s__count_begun) .none kV28 dc28 pm28 an28 cd28 ct28), sl28⟩)
    (c28 : PySem.W.codeIn K cd28 "_count_begun" = true)
    (k28 : PySem.W.keepIn K (.ref f28) = true)
    (a29 : PySem.W.nsIn K mainGlobals "_made_slope" = some (some (.ref f29)))
    (l29 : K.lookup f29 = some ⟨oc29, od29, .func (PySem.W.fnOf "_made_slope" "_made_slope" (defArgs s__made_slope) (defBody s__made_slope) (defScope s__made_slope) .none kV29 dc29 pm29 an29 cd29 ct29), sl29⟩)
    (c29 : PySem.W.codeIn K cd29 "_made_slope" = true)
    (k29 : PySem.W.keepIn K (.ref f29) = true)
    (a30 : PySem.W.nsIn K mainGlobals "_nth_slope_of" = some (some (.ref f30)))
    (l30 : K.lookup f30 = some ⟨oc30, od30, .func (PySem.W.fnOf "_nth_slope_of" "_nth_slope_of" (defArgs s__nth_slope_of) (defBody s__nth_slope_of) (defScope s__nth_slope_of) .none kV30 dc30 pm30 an30 cd30 ct30), sl30⟩)
    (c30 : PySem.W.codeIn K cd30 "_nth_slope_of" = true)
    (k30 : PySem.W.keepIn K (.ref f30) = true)
    (a31 : PySem.W.nsIn K mainGlobals "mixed_slopes" = some (some (.ref f31)))
    (l31 : K.lookup f31 = some ⟨oc31, od31, .func (PySem.W.fnOf "mixed_slopes" "mixed_slopes" (defArgs s_mixed_slopes) (defBody s_mixed_slopes) (defScope s_mixed_slopes) .none kV31 dc31 pm31 an31 cd31 ct31), sl31⟩)
    (c31 : PySem.W.codeIn K cd31 "mixed_slopes" = true)
    (k31 : PySem.W.keepIn K (.ref f31) = true)
    (a32 : PySem.W.nsIn K mainGlobals "slopes_at" = some (some (.ref f32)))
    (l32 : K.lookup f32 = some ⟨oc32, od32, .func (PySem.W.fnOf "slopes_at" "slopes_at" (defArgs s_slopes_at) (defBody s_slopes_at) (defScope s_slopes_at) .none kV32 dc32 pm32 an32 cd32 ct32), sl32⟩)
    (c32 : PySem.W.codeIn K cd32 "slopes_at" = true)
    (k32 : PySem.W.keepIn K (.ref f32) = true)
    (a33 : PySem.W.nsIn K mainGlobals "count_slopes" = some (some (.ref f33)))
    (l33 : K.lookup f33 = some ⟨oc33, od33, .func (PySem.W.fnOf "count_slopes" "count_slopes" (defArgs s_count_slopes) (defBody s_count_slopes) (defScope s_count_slopes) .none kV33 dc33 pm33 an33 cd33 ct33), sl33⟩)
    (c33 : PySem.W.codeIn K cd33 "count_slopes" = true)
    (k33 : PySem.W.keepIn K (.ref f33) = true)
    (a34 : PySem.W.nsIn K mainGlobals "nth_slope" = some (some (.ref f34)))
    (l34 : K.lookup f34 = some ⟨oc34, od34, .func (PySem.W.fnOf "nth_slope" "nth_slope" (defArgs s_nth_slope) (defBody s_nth_slope) (defScope s_nth_slope) .none kV34 dc34 pm34 an34 cd34 ct34), sl34⟩)
    (c34 : PySem.W.codeIn K cd34 "nth_slope" = true)
    (k34 : PySem.W.keepIn K (.ref f34) = true)
    (a35 : PySem.W.nsIn K mainGlobals "_law_parts" = some (some (.ref f35)))
    (l35 : K.lookup f35 = some ⟨oc35, od35, .func (PySem.W.fnOf "_law_parts" "_law_parts" (defArgs s__law_parts) (defBody s__law_parts) (defScope s__law_parts) .none kV35 dc35 pm35 an35 cd35 ct35), sl35⟩)
    (c35 : PySem.W.codeIn K cd35 "_law_parts" = true)
    (k35 : PySem.W.keepIn K (.ref f35) = true)
    (a36 : PySem.W.nsIn K mainGlobals "_law_tone" = some (some (.ref f36)))
    (l36 : K.lookup f36 = some ⟨oc36, od36, .func (PySem.W.fnOf "_law_tone" "_law_tone" (defArgs s__law_tone) (defBody s__law_tone) (defScope s__law_tone) .none kV36 dc36 pm36 an36 cd36 ct36), sl36⟩)
    (c36 : PySem.W.codeIn K cd36 "_law_tone" = true)
    (k36 : PySem.W.keepIn K (.ref f36) = true)
    (a37 : PySem.W.nsIn K mainGlobals "_law_end" = some (some (.ref f37)))
    (l37 : K.lookup f37 = some ⟨oc37, od37, .func (PySem.W.fnOf "_law_end" "_law_end" (defArgs s__law_end) (defBody s__law_end) (defScope s__law_end) .none kV37 dc37 pm37 an37 cd37 ct37), sl37⟩)
    (c37 : PySem.W.codeIn K cd37 "_law_end" = true)
    (k37 : PySem.W.keepIn K (.ref f37) = true)
    (a38 : PySem.W.nsIn K mainGlobals "_law_runs" = some (some (.ref f38)))
    (l38 : K.lookup f38 = some ⟨oc38, od38, .func (PySem.W.fnOf "_law_runs" "_law_runs" (defArgs s__law_runs) (defBody s__law_runs) (defScope s__law_runs) .none kV38 dc38 pm38 an38 cd38 ct38), sl38⟩)
    (c38 : PySem.W.codeIn K cd38 "_law_runs" = true)
    (k38 : PySem.W.keepIn K (.ref f38) = true)
    (a39 : PySem.W.nsIn K mainGlobals "_law_mixed_right" = some (some (.ref f39)))
    (l39 : K.lookup f39 = some ⟨oc39, od39, .func (PySem.W.fnOf "_law_mixed_right" "_law_mixed_right" (defArgs s__law_mixed_right) (defBody s__law_mixed_right) (defScope s__law_mixed_right) .none kV39 dc39 pm39 an39 cd39 ct39), sl39⟩)
    (c39 : PySem.W.codeIn K cd39 "_law_mixed_right" = true)
    (k39 : PySem.W.keepIn K (.ref f39) = true)
    (a40 : PySem.W.nsIn K mainGlobals "_law_sampled_right" = some (some (.ref f40)))
    (l40 : K.lookup f40 = some ⟨oc40, od40, .func (PySem.W.fnOf "_law_sampled_right" "_law_sampled_right" (defArgs s__law_sampled_right) (defBody s__law_sampled_right) (defScope s__law_sampled_right) .none kV40 dc40 pm40 an40 cd40 ct40), sl40⟩)
    (c40 : PySem.W.codeIn K cd40 "_law_sampled_right" = true)
    (k40 : PySem.W.keepIn K (.ref f40) = true)
    (a41 : PySem.W.nsIn K mainGlobals "_law_plain_right" = some (some (.ref f41)))
    (l41 : K.lookup f41 = some ⟨oc41, od41, .func (PySem.W.fnOf "_law_plain_right" "_law_plain_right" (defArgs s__law_plain_right) (defBody s__law_plain_right) (defScope s__law_plain_right) .none kV41 dc41 pm41 an41 cd41 ct41), sl41⟩)
    (c41 : PySem.W.codeIn K cd41 "_law_plain_right" = true)
    (k41 : PySem.W.keepIn K (.ref f41) = true)
    (a42 : PySem.W.nsIn K mainGlobals "law" = some (some (.ref f42)))
    (l42 : K.lookup f42 = some ⟨oc42, od42, .func (PySem.W.fnOf "law" "law" (defArgs s_law) (defBody s_law) (defScope s_law) .none kV42 dc42 pm42 an42 cd42 ct42), sl42⟩)
    (c42 : PySem.W.codeIn K cd42 "law" = true)
    (k42 : PySem.W.keepIn K (.ref f42) = true)
    (z1 : PySem.W.nsIn K mainGlobals "len" = some none)
    (z2 : PySem.W.nsIn K mainGlobals "max" = some none)
    (z3 : PySem.W.nsIn K mainGlobals "abs" = some none)
    (z4 : PySem.W.nsIn K mainGlobals "int" = some none)
    (z5 : PySem.W.nsIn K mainGlobals "range" = some none)
    (z6 : PySem.W.nsIn K mainGlobals "isinstance" = some none)
    (z7 : PySem.W.nsIn K mainGlobals "bool" = some none)
    (z8 : PySem.W.nsIn K mainGlobals "tuple" = some none)
    (z9 : PySem.W.nsIn K mainGlobals "str" = some none)
    (z10 : PySem.W.nsIn K mainGlobals "list" = some none)
    (z11 : PySem.W.nsIn K mainGlobals "min" = some none)
    (z12 : PySem.W.nsIn K mainGlobals "enumerate" = some none)
    (z13 : PySem.W.nsIn K mainGlobals "divmod" = some none)
    (z14 : PySem.W.nsIn K mainGlobals "repr" = some none)
    (z15 : PySem.W.nsIn K mainGlobals "sorted" = some none)
    (z16 : PySem.W.nsIn K mainGlobals "set" = some none)
    (z17 : PySem.W.nsIn K mainGlobals "super" = some none)
    (y1 : PySem.W.nsIn K mainGlobals "LEAST_RATE" = some (some (.int 2 t1)))
    (y2 : PySem.W.nsIn K mainGlobals "MOST_STAGES" = some (some (.int 8 t2)))
    (g0 : PySem.W.nsIn K mainGlobals "InvalidReceiver" = some (some (.ref C0)))
    (w0 : PySem.W.keepIn K (.ref C0) = true)
    (eb0 : PySem.W.subIn K (.ref C0) (.type "BaseException") = some true)
    (ty0 : PySem.W.typeIn K (.ref C0) = some (.type "type"))
    (ga0 : PySem.W.findIn K (.ref C0) "__getattribute__" = some (some (.builtin "BaseException.__getattribute__")))
    (gg0 : PySem.W.findIn K (.ref C0) "__getattr__" = some none)
    (hd0 : PySem.W.hasDictIn K C0 = true)
    (xL0 : K.lookup C0 = some (excClassObj nm0 qn0 C0 N0 bs0 bm0 true sn0 sub0 ab0 col0 dd0 m0_0 m0_1 m0_2 m0_3 m0_5 "ValueError.__new__"))
    (rv0 : PySem.HandSPX.refsVE bm0 = true)
    (sa0 : PySem.W.findIn K (.ref C0) "__setattr__" = some (some (.builtin "object.__setattr__")))
    (no0 : PySem.W.findIn K (.ref C0) "index" = some none)
    (iC0 : PySem.W.findIn K (.ref C0) "__init__" = some (some (.ref i0)))
    (tC0 : PySem.W.typeIn K (.ref i0) = some (.type "function"))
    (ve0 : PySem.W.subIn K (.ref C0) (.type "ValueError") = some true)
    (me0 : PySem.W.mroIn K C0 (.ref C0) = some true)
    (te0 : PySem.W.exmOne K (.ref C0) (.ref C0) = some true)
    (su0 : PySem.W.ks_superIn K C0 C0 "__init__" = some (some (.builtin "ValueError.__init__")))
    (li0 : K.lookup i0 = some ⟨eoc0, eod0, .func (PySem.W.fnX "__init__" q0 (SupX.iA "index" p1_0 p2_0) (SupX.iB "index" msg0 a1_0 a2_0 a3_0 a4_0 a5_0 a6_0 q1_0 q2_0 q3_0 q4_0) (SupX.iS "index") [("__class__", u0)] .none .none edc0 epm0 ean0 (.ref v0) ect0), esl0⟩)
    (ci0 : PySem.W.codeIn K (.ref v0) q0 = true)
    (lu0 : K.lookup u0 = some ⟨cl0, cld0, .cell (some (.ref C0)), csl0⟩)
    (lv0 : K.lookup v0 = some ⟨dl0, dld0, .fields vs0, dsl0⟩)
    (vv0 : vs0[2]? = some (.str file0 tf0))
    (fi0 : ((P.main.file : Str) == file0) = true)
    (hl0 : (a3_0.endLine == a5_0.line) = true)
    (g1 : PySem.W.nsIn K mainGlobals "InvalidDial" = some (some (.ref C1)))
    (w1 : PySem.W.keepIn K (.ref C1) = true)
    (eb1 : PySem.W.subIn K (.ref C1) (.type "BaseException") = some true)
    (ty1 : PySem.W.typeIn K (.ref C1) = some (.type "type"))
    (x1 : PySem.W.excIn K C1 [.type "ValueError", .type "Exception", .type "BaseException", .type "object"] "ValueError.__new__" = true)
    (g2 : PySem.W.nsIn K mainGlobals "InvalidNumber" = some (some (.ref C2)))
    (w2 : PySem.W.keepIn K (.ref C2) = true)
    (eb2 : PySem.W.subIn K (.ref C2) (.type "BaseException") = some true)
    (ty2 : PySem.W.typeIn K (.ref C2) = some (.type "type"))
    (x2 : PySem.W.excIn K C2 [.type "ValueError", .type "Exception", .type "BaseException", .type "object"] "ValueError.__new__" = true)
    (g3 : PySem.W.nsIn K mainGlobals "InvalidSignal" = some (some (.ref C3)))
    (w3 : PySem.W.keepIn K (.ref C3) = true)
    (eb3 : PySem.W.subIn K (.ref C3) (.type "BaseException") = some true)
    (ty3 : PySem.W.typeIn K (.ref C3) = some (.type "type"))
    (x3 : PySem.W.excIn K C3 [.type "ValueError", .type "Exception", .type "BaseException", .type "object"] "ValueError.__new__" = true)
    (op : PySem.W.nsIn K cStatics "thirdparty.any" = some none)
    (tp : (P.main.scope.names.lookup ("super" : Str)).isSome = false) :
    ∃ fd : FuncData, (∀ (s : Shared) (v : Value), BindsTo s fd ⟨[v], []⟩ [("script", v)]) ∧ ∀ base : Heap, K.In base → base.Ns mainGlobals mg → FnG P w K mg base CX0 9 fa fd ["script"] (spLaw K) := by
  have e := hfa.symm.trans (PySem.W.mg_of X G a42)
  cases e
  have m_len := PySem.W.mg_none_of X G z1
  have m_max := PySem.W.mg_none_of X G z2
  have m_abs := PySem.W.mg_none_of X G z3
  have m_int := PySem.W.mg_none_of X G z4
  have m_range := PySem.W.mg_none_of X G z5
  have m_isinstance := PySem.W.mg_none_of X G z6
  have m_bool := PySem.W.mg_none_of X G z7
  have m_tuple := PySem.W.mg_none_of X G z8
  have m_str := PySem.W.mg_none_of X G z9
  have m_list := PySem.W.mg_none_of X G z10
  have m_min := PySem.W.mg_none_of X G z11
  have m_enumerate := PySem.W.mg_none_of X G z12
  have m_divmod := PySem.W.mg_none_of X G z13
  have m_repr := PySem.W.mg_none_of X G z14
  have m_sorted := PySem.W.mg_none_of X G z15
  have m_set := PySem.W.mg_none_of X G z16
  have m_super := PySem.W.mg_none_of X G z17
  have g_LEAST_RATE := PySem.W.mg_of X G y1
  have g_MOST_STAGES := PySem.W.mg_of X G y2
  have g_InvalidReceiver := PySem.W.mg_of X G g0
  have T_InvalidReceiver : SupX.ErrTxt P K mg "InvalidReceiver" "index" C0 i0 := { okf := .inl rfl, gC := PySem.W.mg_of X G g0, cls := ⟨_, _, _, _, _, _, _, _, _, _, _, _, _, _, _, xL0, rv0⟩, sa := sa0, ga := ga0, gg := gg0, noN := no0, iC := iC0, tC := tC0, kC := w0, exC := eb0, veC := ve0, meC := me0, tyC := ty0, hdC := hd0, te := te0, sup := su0, op := op, gs := m_super, top := tp, fn := ⟨_, _, _, _, _, _, .none, _, _, _, _, _, _, _, _, _, _, _, _, _, _, _, _, _, _, _, _, _, _, _, _, _, _, li0, ci0, lu0, lv0, vv0, fi0, hl0⟩ }
  have g_InvalidDial := PySem.W.mg_of X G g1
  have T_InvalidDial : Err K mg "InvalidDial" C1 := ⟨PySem.W.mg_of X G g1, x1, w1, eb1, ty1⟩
  have g_InvalidNumber := PySem.W.mg_of X G g2
  have T_InvalidNumber : Err K mg "InvalidNumber" C2 := ⟨PySem.W.mg_of X G g2, x2, w2, eb2, ty2⟩
  have g_InvalidSignal := PySem.W.mg_of X G g3
  have T_InvalidSignal : Err K mg "InvalidSignal" C3 := ⟨PySem.W.mg_of X G g3, x3, w3, eb3, ty3⟩
  refine ⟨PySem.W.fnOf "law" "law" (defArgs s_law) (defBody s_law) (defScope s_law) .none kV42 dc42 pm42 an42 cd42 ct42, fun s v => .of_eq rfl, fun base _ _ => ?_⟩
  have F1 := fun_mk (st := s__law_jar) l1 c1 k1
  have h__law_jar : Has P w K mg base 1 "_law_jar" (spJar K) := ⟨f1, _, ["script", "at"], ok_jar (P := P) (w := w) (mg := mg) (base := base) F1 (m_len := m_len) (m_max := m_max) (m_abs := m_abs) (m_int := m_int), PySem.W.mg_of X G a1, k1, F1.binds (ps := ["script", "at"]) fun _ _ _ _ _ _ us hl => match us, hl with | [_, _], _ => rfl⟩
  have F2 := fun_mk (st := s__law_pick) l2 c2 k2
  have h__law_pick : Has P w K mg base 1 "_law_pick" spPick := ⟨f2, _, ["jar", "bound"], ok_pick (P := P) (w := w) (mg := mg) (base := base) F2 (m_int := m_int), PySem.W.mg_of X G a2, k2, F2.binds (ps := ["jar", "bound"]) fun _ _ _ _ _ _ us hl => match us, hl with | [_, _], _ => rfl⟩
  have F3 := fun_mk (st := s__law_radio) l3 c3 k3
  have h__law_radio : Has P w K mg base 2 "_law_radio" spRadio := ⟨f3, _, ["jar", "most", "top"], ok_radio (P := P) (w := w) (mg := mg) (base := base) F3 (m_range := m_range) (h__law_pick := h__law_pick), PySem.W.mg_of X G a3, k3, F3.binds (ps := ["jar", "most", "top"]) fun _ _ _ _ _ _ us hl => match us, hl with | [_, _, _], _ => rfl⟩
  have F4 := fun_mk (st := s_is_integer) l4 c4 k4
  have h_is_integer : Has P w K mg base 1 "is_integer" (spLook isInt) := ⟨f4, _, ["value"], ok_is_integer (P := P) (w := w) (mg := mg) (base := base) F4 (m_isinstance := m_isinstance) (m_int := m_int) (m_bool := m_bool), PySem.W.mg_of X G a4, k4, F4.binds (ps := ["value"]) fun _ _ _ _ _ _ us hl => match us, hl with | [_], _ => rfl⟩
  have F5 := fun_mk (st := s_is_natural) l5 c5 k5
  have h_is_natural : Has P w K mg base 2 "is_natural" (spLook isNat) := ⟨f5, _, ["value"], ok_is_natural (P := P) (w := w) (mg := mg) (base := base) F5 (h_is_integer := h_is_integer), PySem.W.mg_of X G a5, k5, F5.binds (ps := ["value"]) fun _ _ _ _ _ _ us hl => match us, hl with | [_], _ => rfl⟩
  have F6 := fun_mk (st := s_is_band) l6 c6 k6
  have h_is_band : Has P w K mg base 3 "is_band" (spLook isBand) := ⟨f6, _, ["value"], ok_is_band (P := P) (w := w) (mg := mg) (base := base) F6 (m_isinstance := m_isinstance) (m_tuple := m_tuple) (m_len := m_len) (h_is_natural := h_is_natural), PySem.W.mg_of X G a6, k6, F6.binds (ps := ["value"]) fun _ _ _ _ _ _ us hl => match us, hl with | [_], _ => rfl⟩
  have F7 := fun_mk (st := s_is_stage) l7 c7 k7
  have h_is_stage : Has P w K mg base 4 "is_stage" (spLook isStage) := ⟨f7, _, ["value"], ok_is_stage (P := P) (w := w) (mg := mg) (base := base) F7 (m_isinstance := m_isinstance) (m_tuple := m_tuple) (m_str := m_str) (m_len := m_len) (h_is_integer := h_is_integer) (h_is_natural := h_is_natural) (h_is_band := h_is_band), PySem.W.mg_of X G a7, k7, F7.binds (ps := ["value"]) fun _ _ _ _ _ _ us hl => match us, hl with | [_], _ => rfl⟩
  have F8 := fun_mk (st := s_is_rate) l8 c8 k8
  have h_is_rate : Has P w K mg base 2 "is_rate" (spLook isRate) := ⟨f8, _, ["value"], ok_is_rate (P := P) (w := w) (mg := mg) (base := base) F8 (g_LEAST_RATE := g_LEAST_RATE) (h_is_integer := h_is_integer), PySem.W.mg_of X G a8, k8, F8.binds (ps := ["value"]) fun _ _ _ _ _ _ us hl => match us, hl with | [_], _ => rfl⟩
  have F9 := fun_mk (st := s__is_frame) l9 c9 k9
  have h__is_frame : Has P w K mg base 1 "_is_frame" (spLook isFrame) := ⟨f9, _, ["value"], ok_is_frame (P := P) (w := w) (mg := mg) (base := base) F9 (m_isinstance := m_isinstance) (m_tuple := m_tuple) (m_list := m_list) (m_len := m_len) (g_MOST_STAGES := g_MOST_STAGES), PySem.W.mg_of X G a9, k9, F9.binds (ps := ["value"]) fun _ _ _ _ _ _ us hl => match us, hl with | [_], _ => rfl⟩
  have F10 := fun_mk (st := s_mixing_tone) l10 c10 k10
  have h_mixing_tone : Has P w K mg base 1 "mixing_tone" spMixing := ⟨f10, _, ["stage", "dial"], ok_mixing_tone (P := P) (w := w) (mg := mg) (base := base) F10 , PySem.W.mg_of X G a10, k10, F10.binds (ps := ["stage", "dial"]) fun _ _ _ _ _ _ us hl => match us, hl with | [_, _], _ => rfl⟩
  have F11 := fun_mk (st := s_behind_sampler) l11 c11 k11
  have h_behind_sampler : Has P w K mg base 1 "behind_sampler" spSampler := ⟨f11, _, ["rate", "number"], ok_behind_sampler (P := P) (w := w) (mg := mg) (base := base) F11 (m_min := m_min), PySem.W.mg_of X G a11, k11, F11.binds (ps := ["rate", "number"]) fun _ _ _ _ _ _ us hl => match us, hl with | [_, _], _ => rfl⟩
  have F12 := fun_mk (st := s_check_receiver) l12 c12 k12
  have h_check_receiver : HasX P w K mg base 5 "check_receiver" (spRecvE C0) := ⟨f12, _, ["receiver"], ok_check_receiver (P := P) (w := w) (mg := mg) (base := base) F12 (T_InvalidReceiver := T_InvalidReceiver) (m_enumerate := m_enumerate) (m_len := m_len) (h__is_frame := h__is_frame) (h_is_stage := h_is_stage) (h_is_rate := h_is_rate), PySem.W.mg_of X G a12, k12, F12.binds (ps := ["receiver"]) fun _ _ _ _ _ _ us hl => match us, hl with | [_], _ => rfl⟩
  have F13 := fun_mk (st := s_check_dial) l13 c13 k13
  have h_check_dial : HasX P w K mg base 2 "check_dial" (spCheckE isInt C1) := ⟨f13, _, ["dial"], ok_check_dialE (P := P) (w := w) (mg := mg) (base := base) F13 (T_InvalidDial := T_InvalidDial) (h_is_integer := h_is_integer), PySem.W.mg_of X G a13, k13, F13.binds (ps := ["dial"]) fun _ _ _ _ _ _ us hl => match us, hl with | [_], _ => rfl⟩
  have F14 := fun_mk (st := s_check_natural) l14 c14 k14
  have h_check_natural : HasX P w K mg base 3 "check_natural" (spCheckE isNat C2) := ⟨f14, _, ["number"], ok_check_naturalE (P := P) (w := w) (mg := mg) (base := base) F14 (T_InvalidNumber := T_InvalidNumber) (h_is_natural := h_is_natural), PySem.W.mg_of X G a14, k14, F14.binds (ps := ["number"]) fun _ _ _ _ _ _ us hl => match us, hl with | [_], _ => rfl⟩
  have F15 := fun_mk (st := s_check_signal) l15 c15 k15
  have h_check_signal : HasX P w K mg base 3 "check_signal" (spCheckE isNat C3) := ⟨f15, _, ["signal"], ok_check_signalE (P := P) (w := w) (mg := mg) (base := base) F15 (T_InvalidSignal := T_InvalidSignal) (h_is_natural := h_is_natural), PySem.W.mg_of X G a15, k15, F15.binds (ps := ["signal"]) fun _ _ _ _ _ _ us hl => match us, hl with | [_], _ => rfl⟩
  have F16 := fun_mk (st := s_first_fold_to) l16 c16 k16
  have h_first_fold_to : Has P w K mg base 1 "first_fold_to" (spFold ffold) := ⟨f16, _, ["rate", "number"], ok_first_fold (P := P) (w := w) (mg := mg) (base := base) F16 (m_divmod := m_divmod), PySem.W.mg_of X G a16, k16, F16.binds (ps := ["rate", "number"]) fun _ _ _ _ _ _ us hl => match us, hl with | [_, _], _ => rfl⟩
  have F17 := fun_mk (st := s_last_fold_from) l17 c17 k17
  have h_last_fold_from : Has P w K mg base 1 "last_fold_from" (spFold lfold) := ⟨f17, _, ["rate", "number"], ok_last_fold (P := P) (w := w) (mg := mg) (base := base) F17 (m_divmod := m_divmod), PySem.W.mg_of X G a17, k17, F17.binds (ps := ["rate", "number"]) fun _ _ _ _ _ _ us hl => match us, hl with | [_, _], _ => rfl⟩
  have F18 := fun_mk (st := s_fold_way) l18 c18 k18
  have h_fold_way : Has P w K mg base 1 "fold_way" spWay := ⟨f18, _, ["fold"], ok_fold_way (P := P) (w := w) (mg := mg) (base := base) F18 , PySem.W.mg_of X G a18, k18, F18.binds (ps := ["fold"]) fun _ _ _ _ _ _ us hl => match us, hl with | [_], _ => rfl⟩
  have F19 := fun_mk (st := s_fold_ends) l19 c19 k19
  have h_fold_ends : Has P w K mg base 1 "fold_ends" spEnds := ⟨f19, _, ["rate", "fold"], ok_fold_ends (P := P) (w := w) (mg := mg) (base := base) F19 , PySem.W.mg_of X G a19, k19, F19.binds (ps := ["rate", "fold"]) fun _ _ _ _ _ _ us hl => match us, hl with | [_, _], _ => rfl⟩
  have F20 := fun_mk (st := s_signal_of) l20 c20 k20
  have h_signal_of : Has P w K mg base 1 "signal_of" spSig := ⟨f20, _, ["stretch", "number"], ok_signal_of (P := P) (w := w) (mg := mg) (base := base) F20 , PySem.W.mg_of X G a20, k20, F20.binds (ps := ["stretch", "number"]) fun _ _ _ _ _ _ us hl => match us, hl with | [_, _], _ => rfl⟩
  have F21 := fun_mk (st := s_cut_to_signals) l21 c21 k21
  have h_cut_to_signals : Has P w K mg base 1 "cut_to_signals" spCutS := ⟨f21, _, ["stretch", "low", "high"], ok_cutS (P := P) (w := w) (mg := mg) (base := base) F21 (m_max := m_max), PySem.W.mg_of X G a21, k21, F21.binds (ps := ["stretch", "low", "high"]) fun _ _ _ _ _ _ us hl => match us, hl with | [_, _, _], _ => rfl⟩
  have F22 := fun_mk (st := s_cut_to_numbers) l22 c22 k22
  have h_cut_to_numbers : Has P w K mg base 2 "cut_to_numbers" spCutN := ⟨f22, _, ["stretch", "low", "high"], ok_cutN (P := P) (w := w) (mg := mg) (base := base) F22 (m_max := m_max) (m_min := m_min) (h_signal_of := h_signal_of) (h_cut_to_signals := h_cut_to_signals), PySem.W.mg_of X G a22, k22, F22.binds (ps := ["stretch", "low", "high"]) fun _ _ _ _ _ _ us hl => match us, hl with | [_, _, _], _ => rfl⟩
  have F23 := fun_mk (st := s__behind_mixer) l23 c23 k23
  have h__behind_mixer : Has P w K mg base 2 "_behind_mixer" spMixL := ⟨f23, _, ["stretches", "center"], ok_mixer (P := P) (w := w) (mg := mg) (base := base) F23 (m_abs := m_abs) (h_signal_of := h_signal_of), PySem.W.mg_of X G a23, k23, F23.binds (ps := ["stretches", "center"]) fun _ _ _ _ _ _ us hl => match us, hl with | [_, _], _ => rfl⟩
  have F24 := fun_mk (st := s__behind_pass) l24 c24 k24
  have h__behind_pass : Has P w K mg base 3 "_behind_pass" spPassL := ⟨f24, _, ["stretches", "low", "high"], ok_pass (P := P) (w := w) (mg := mg) (base := base) F24 (h_cut_to_numbers := h_cut_to_numbers), PySem.W.mg_of X G a24, k24, F24.binds (ps := ["stretches", "low", "high"]) fun _ _ _ _ _ _ us hl => match us, hl with | [_, _, _], _ => rfl⟩
  have F25 := fun_mk (st := s_stretches_at) l25 c25 k25
  have h_stretches_at : Has P w K mg base 4 "stretches_at" spStr := ⟨f25, _, ["stages", "dial"], ok_stretches (P := P) (w := w) (mg := mg) (base := base) F25 (h_mixing_tone := h_mixing_tone) (h__behind_mixer := h__behind_mixer) (h__behind_pass := h__behind_pass), PySem.W.mg_of X G a25, k25, F25.binds (ps := ["stages", "dial"]) fun _ _ _ _ _ _ us hl => match us, hl with | [_, _], _ => rfl⟩
  have F26 := fun_mk (st := s__folds_along) l26 c26 k26
  have h__folds_along : Has P w K mg base 2 "_folds_along" spFolds := ⟨f26, _, ["slope", "rate"], ok_folds (P := P) (w := w) (mg := mg) (base := base) F26 (m_max := m_max) (m_min := m_min) (h_first_fold_to := h_first_fold_to) (h_last_fold_from := h_last_fold_from), PySem.W.mg_of X G a26, k26, F26.binds (ps := ["slope", "rate"]) fun _ _ _ _ _ _ us hl => match us, hl with | [_, _], _ => rfl⟩
  have F27 := fun_mk (st := s__count_made) l27 c27 k27
  have h__count_made : Has P w K mg base 3 "_count_made" spCountM := ⟨f27, _, ["slope", "rate"], ok_count_made (P := P) (w := w) (mg := mg) (base := base) F27 (h__folds_along := h__folds_along), PySem.W.mg_of X G a27, k27, F27.binds (ps := ["slope", "rate"]) fun _ _ _ _ _ _ us hl => match us, hl with | [_, _], _ => rfl⟩
  have F28 := fun_mk (st := s__count_begun) l28 c28 k28
  have h__count_begun : Has P w K mg base 4 "_count_begun" spBegun := ⟨f28, _, ["mixed", "rate", "far"], ok_begun (P := P) (w := w) (mg := mg) (base := base) F28 (h_cut_to_signals := h_cut_to_signals) (h__count_made := h__count_made), PySem.W.mg_of X G a28, k28, F28.binds (ps := ["mixed", "rate", "far"]) fun _ _ _ _ _ _ us hl => match us, hl with | [_, _, _], _ => rfl⟩
  have F29 := fun_mk (st := s__made_slope) l29 c29 k29
  have h__made_slope : Has P w K mg base 3 "_made_slope" spMade := ⟨f29, _, ["slope", "rate", "index"], ok_made (P := P) (w := w) (mg := mg) (base := base) F29 (h__folds_along := h__folds_along) (h_fold_ends := h_fold_ends) (h_cut_to_numbers := h_cut_to_numbers) (h_behind_sampler := h_behind_sampler) (h_fold_way := h_fold_way), PySem.W.mg_of X G a29, k29, F29.binds (ps := ["slope", "rate", "index"]) fun _ _ _ _ _ _ us hl => match us, hl with | [_, _, _], _ => rfl⟩
  have F30 := fun_mk (st := s__nth_slope_of) l30 c30 k30
  have h__nth_slope_of : Has P w K mg base 4 "_nth_slope_of" spNth := ⟨f30, _, ["mixed", "rate", "index"], ok_nth (P := P) (w := w) (mg := mg) (base := base) F30 (h__count_made := h__count_made) (h__made_slope := h__made_slope), PySem.W.mg_of X G a30, k30, F30.binds (ps := ["mixed", "rate", "index"]) fun _ _ _ _ _ _ us hl => match us, hl with | [_, _, _], _ => rfl⟩
  have F31 := fun_mk (st := s_mixed_slopes) l31 c31 k31
  have h_mixed_slopes : HasX P w K mg base 6 "mixed_slopes" (spMixedE C0 C1) := ⟨f31, _, ["receiver", "dial"], ok_mixed (P := P) (w := w) (mg := mg) (base := base) F31 (h_check_receiver := h_check_receiver) (h_check_dial := h_check_dial) (h_stretches_at := h_stretches_at), PySem.W.mg_of X G a31, k31, F31.binds (ps := ["receiver", "dial"]) fun _ _ _ _ _ _ us hl => match us, hl with | [_, _], _ => rfl⟩
  have h_mixed_slopes_kw : HasKX P w K mg base 6 "mixed_slopes" ["dial", "receiver"] rev2 rev2 (spMixedE C0 C1) := ⟨f31, _, ["receiver", "dial"], ok_mixed (P := P) (w := w) (mg := mg) (base := base) F31 (h_check_receiver := h_check_receiver) (h_check_dial := h_check_dial) (h_stretches_at := h_stretches_at), PySem.W.mg_of X G a31, k31, ⟨fun s us ws _ q1 q2 => match us, ws, q1, q2 with | [], [_, _], _, _ => .of_eq rfl, fun _ r2 => vals_rev2 r2⟩⟩
  have F32 := fun_mk (st := s_slopes_at) l32 c32 k32
  have h_slopes_at : HasX P w K mg base 7 "slopes_at" (spAtE C0 C1 C3) := ⟨f32, _, ["receiver", "dial", "signal"], ok_slopes_at (P := P) (w := w) (mg := mg) (base := base) F32 (m_range := m_range) (m_max := m_max) (h_mixed_slopes := h_mixed_slopes) (h_check_signal := h_check_signal) (h__count_begun := h__count_begun) (h__nth_slope_of := h__nth_slope_of), PySem.W.mg_of X G a32, k32, F32.binds (ps := ["receiver", "dial", "signal"]) fun _ _ _ _ _ _ us hl => match us, hl with | [_, _, _], _ => rfl⟩
  have h_slopes_at_kw : HasKX P w K mg base 7 "slopes_at" ["signal", "dial", "receiver"] rev3 rev3 (spAtE C0 C1 C3) := ⟨f32, _, ["receiver", "dial", "signal"], ok_slopes_at (P := P) (w := w) (mg := mg) (base := base) F32 (m_range := m_range) (m_max := m_max) (h_mixed_slopes := h_mixed_slopes) (h_check_signal := h_check_signal) (h__count_begun := h__count_begun) (h__nth_slope_of := h__nth_slope_of), PySem.W.mg_of X G a32, k32, ⟨fun s us ws _ q1 q2 => match us, ws, q1, q2 with | [], [_, _, _], _, _ => .of_eq rfl, fun _ r2 => vals_rev3 r2⟩⟩
  have F33 := fun_mk (st := s_count_slopes) l33 c33 k33
  have h_count_slopes : HasX P w K mg base 7 "count_slopes" (spCountE C0 C1 C2) := ⟨f33, _, ["receiver", "dial", "far"], ok_count_slopes (P := P) (w := w) (mg := mg) (base := base) F33 (h_mixed_slopes := h_mixed_slopes) (h_check_natural := h_check_natural) (h__count_begun := h__count_begun), PySem.W.mg_of X G a33, k33, F33.binds (ps := ["receiver", "dial", "far"]) fun _ _ _ _ _ _ us hl => match us, hl with | [_, _, _], _ => rfl⟩
  have h_count_slopes_kw : HasKX P w K mg base 7 "count_slopes" ["far", "dial", "receiver"] rev3 rev3 (spCountE C0 C1 C2) := ⟨f33, _, ["receiver", "dial", "far"], ok_count_slopes (P := P) (w := w) (mg := mg) (base := base) F33 (h_mixed_slopes := h_mixed_slopes) (h_check_natural := h_check_natural) (h__count_begun := h__count_begun), PySem.W.mg_of X G a33, k33, ⟨fun s us ws _ q1 q2 => match us, ws, q1, q2 with | [], [_, _, _], _, _ => .of_eq rfl, fun _ r2 => vals_rev3 r2⟩⟩
  have F34 := fun_mk (st := s_nth_slope) l34 c34 k34
  have h_nth_slope : HasX P w K mg base 7 "nth_slope" (spNthE C0 C1 C2) := ⟨f34, _, ["receiver", "dial", "index"], ok_nth_slope (P := P) (w := w) (mg := mg) (base := base) F34 (h_mixed_slopes := h_mixed_slopes) (h_check_natural := h_check_natural) (h__nth_slope_of := h__nth_slope_of), PySem.W.mg_of X G a34, k34, F34.binds (ps := ["receiver", "dial", "index"]) fun _ _ _ _ _ _ us hl => match us, hl with | [_, _, _], _ => rfl⟩
  have h_nth_slope_kw : HasKX P w K mg base 7 "nth_slope" ["index", "dial", "receiver"] rev3 rev3 (spNthE C0 C1 C2) := ⟨f34, _, ["receiver", "dial", "index"], ok_nth_slope (P := P) (w := w) (mg := mg) (base := base) F34 (h_mixed_slopes := h_mixed_slopes) (h_check_natural := h_check_natural) (h__nth_slope_of := h__nth_slope_of), PySem.W.mg_of X G a34, k34, ⟨fun s us ws _ q1 q2 => match us, ws, q1, q2 with | [], [_, _, _], _, _ => .of_eq rfl, fun _ r2 => vals_rev3 r2⟩⟩
  have F35 := fun_mk (st := s__law_parts) l35 c35 k35
  have h__law_parts : Has P w K mg base 1 "_law_parts" spParts := ⟨f35, _, ["radio", "tuned", "wave"], ok_law_parts (P := P) (w := w) (mg := mg) (base := base) F35 (m_max := m_max) (m_min := m_min) (m_int := m_int), PySem.W.mg_of X G a35, k35, F35.binds (ps := ["radio", "tuned", "wave"]) fun _ _ _ _ _ _ us hl => match us, hl with | [_, _, _], _ => rfl⟩
  have F36 := fun_mk (st := s__law_tone) l36 c36 k36
  have h__law_tone : Has P w K mg base 2 "_law_tone" spToneL := ⟨f36, _, ["radio", "tuned", "wave"], ok_law_tone (P := P) (w := w) (mg := mg) (base := base) F36 (h__law_parts := h__law_parts), PySem.W.mg_of X G a36, k36, F36.binds (ps := ["radio", "tuned", "wave"]) fun _ _ _ _ _ _ us hl => match us, hl with | [_, _, _], _ => rfl⟩
  have F37 := fun_mk (st := s__law_end) l37 c37 k37
  have h__law_end : Has P w K mg base 1 "_law_end" spEnd := ⟨f37, _, ["radio", "tuned"], ok_law_end (P := P) (w := w) (mg := mg) (base := base) F37 (m_abs := m_abs), PySem.W.mg_of X G a37, k37, F37.binds (ps := ["radio", "tuned"]) fun _ _ _ _ _ _ us hl => match us, hl with | [_, _], _ => rfl⟩
  have F38 := fun_mk (st := s__law_runs) l38 c38 k38
  have h__law_runs : Has P w K mg base 1 "_law_runs" spRuns := ⟨f38, _, ["pitches"], ok_law_runs (P := P) (w := w) (mg := mg) (base := base) F38 (m_range := m_range) (m_len := m_len) (m_abs := m_abs), PySem.W.mg_of X G a38, k38, F38.binds (ps := ["pitches"]) fun _ _ _ _ _ _ us hl => match us, hl with | [_], _ => rfl⟩
  have F39 := fun_mk (st := s__law_mixed_right) l39 c39 k39
  have h__law_mixed_right : HasG P w K mg base 7 "_law_mixed_right" spMixR := ⟨f39, _, ["radio", "tuned", "top"], ok_law_mixed_right (P := P) (w := w) (mg := mg) (base := base) F39 (m_range := m_range) (m_repr := m_repr) (h__law_tone := h__law_tone) (h__law_runs := h__law_runs) (h_mixed_slopes := h_mixed_slopes) (h_mixed_slopes_kw := h_mixed_slopes_kw), PySem.W.mg_of X G a39, k39, F39.binds (ps := ["radio", "tuned", "top"]) fun _ _ _ _ _ _ us hl => match us, hl with | [_, _, _], _ => rfl⟩
  have F40 := fun_mk (st := s__law_sampled_right) l40 c40 k40
  have h__law_sampled_right : HasG P w K mg base 8 "_law_sampled_right" spSamp := ⟨f40, _, ["jar", "radio", "tuned", "top"], ok_law_sampled_right (P := P) (w := w) (mg := mg) (base := base) F40 (m_range := m_range) (m_repr := m_repr) (m_len := m_len) (m_sorted := m_sorted) (m_set := m_set) (h__law_pick := h__law_pick) (h__law_tone := h__law_tone) (h__law_runs := h__law_runs) (h_nth_slope_kw := h_nth_slope_kw) (h_count_slopes_kw := h_count_slopes_kw) (h_slopes_at_kw := h_slopes_at_kw), PySem.W.mg_of X G a40, k40, F40.binds (ps := ["jar", "radio", "tuned", "top"]) fun _ _ _ _ _ _ us hl => match us, hl with | [_, _, _, _], _ => rfl⟩
  have F41 := fun_mk (st := s__law_plain_right) l41 c41 k41
  have h__law_plain_right : HasG P w K mg base 8 "_law_plain_right" spPlain := ⟨f41, _, ["jar", "radio", "tuned", "top"], ok_law_plain_right (P := P) (w := w) (mg := mg) (base := base) F41 (m_range := m_range) (m_repr := m_repr) (m_len := m_len) (h__law_pick := h__law_pick) (h_mixed_slopes := h_mixed_slopes) (h_nth_slope := h_nth_slope) (h_count_slopes := h_count_slopes) (h_slopes_at := h_slopes_at) (h_slopes_at_kw := h_slopes_at_kw), PySem.W.mg_of X G a41, k41, F41.binds (ps := ["jar", "radio", "tuned", "top"]) fun _ _ _ _ _ _ us hl => match us, hl with | [_, _, _, _], _ => rfl⟩
  have F42 := fun_mk (st := s_law) l42 c42 k42
  exact ok_law (P := P) (w := w) (mg := mg) (base := base) F42 (m_range := m_range) (m_max := m_max) (m_min := m_min) (m_len := m_len) (h__law_jar := h__law_jar) (h__law_pick := h__law_pick) (h__law_radio := h__law_radio) (h__law_end := h__law_end) (h__law_mixed_right := h__law_mixed_right) (h__law_plain_right := h__law_plain_right) (h__law_sampled_right := h__law_sampled_right) (h_slopes_at := h_slopes_at) (h_nth_slope := h_nth_slope)
theorem walk {l : PySem.W.OpenLaw} {q : Program} {loose : List Str} {XP : (Str → Option Value) → Heap → Prop} {YP : World → Heap → Prop} {d : DefRec} {K : Params → PySem.W.Frag} (hn : l.most = some 63) (hdf : d.params.defaults = [])
    (hY : ∀ (w : World) (h : Heap), YP w h → (K w.params).In h)
    (F : ∀ (w : World) (mg : Str → Option Value) (fa : Addr) (h : Heap), (K w.params).In h → h.Ns mainGlobals mg → mg d.name = some (.ref fa) →
      ∃ fd : FuncData, (∀ (s : Shared) (u : Value), BindsTo s fd ⟨[u], []⟩ [("script", u)]) ∧ ∀ base : Heap, (K w.params).In base → base.Ns mainGlobals mg → FnG l.prog w (K w.params) mg base CX0 9 fa fd ["script"] (spLaw (K w.params))) :
    PySem.W.WalkO q loose XP YP l.row.toRowW d [] (fun f vs => PySem.call f vs) :=
  walk_G (n := 63) (k := 9) (x := "script") (sp := fun K => spLaw K) hn (by decide) hdf ⟨rfl, by decide, by decide⟩ hY F (fun _ _ a ns hl _ hS => ⟨a, ns, rfl, Nat.le_trans hl (by decide), hS, fun _ => rfl⟩)
end Kx

open PySem PySem.W PyProof.Rows
set_option maxRecDepth 100000 in
set_option maxHeartbeats 0 in
theorem PySem.Challenge.cw_imagetones_k04_slopes_signal_by_signal_holds : PySem.Challenge.rw_imagetones_k04_slopes_signal_by_signal.Holds := by
  w_on; o_law; k_head; (case hw => w_witness2)
  k_fill
  refine Kx.walk (l := PySem.Challenge.rw_imagetones_k04_slopes_signal_by_signal) rfl rfl (fun w h Y => PySem.W.kIn_of Y) ?F
  case F =>
    intro w mg fa h KX G hmg
    refine' Kx.all_mk KX G hmg ?hXa1 ?hXl1 ?hXc1 ?hXk1 ?hXa2 ?hXl2 ?hXc2 ?hXk2 ?hXa3 ?hXl3 ?hXc3 ?hXk3 ?hXa4 ?hXl4 ?hXc4 ?hXk4 ?hXa5 ?hXl5 ?hXc5 ?hXk5 ?hXa6 ?hXl6 ?hXc6 ?hXk6 ?hXa7 ?hXl7 ?hXc7 ?hXk7 ?hXa8 ?hXl8 ?hXc8 ?hXk8 ?hXa9 ?hXl9 ?hXc9 ?hXk9 ?hXa10 ?hXl10 ?hXc10 ?hXk10 ?hXa11 ?hXl11 ?hXc11 ?hXk11 ?hXa12 ?hXl12 ?hXc12 ?hXk12 ?hXa13 ?hXl13 ?hXc13 ?hXk13 ?hXa14 ?hXl14 ?hXc14 ?hXk14 ?hXa15 ?hXl15 ?hXc15 ?hXk15 ?hXa16 ?hXl16 ?hXc16 ?hXk16 ?hXa17 ?hXl17 ?hXc17 ?hXk17 ?hXa18 ?hXl18 ?hXc18 ?hXk18 ?hXa19 ?hXl19 ?hXc19 ?hXk19 ?hXa20 ?hXl20 ?hXc20 ?hXk20 ?hXa21 ?hXl21 ?hXc21 ?hXk21 ?hXa22 ?hXl22 ?hXc22 ?hXk22 ?hXa23 ?hXl23 ?hXc23 ?hXk23 ?hXa24 ?hXl24 ?hXc24 ?hXk24 ?hXa25 ?hXl25 ?hXc25 ?hXk25 ?hXa26 ?hXl26 ?hXc26 ?hXk26 ?hXa27 ?hXl27 ?hXc27 ?hXk27 ?hXa28 ?hXl28 ?hXc28 ?hXk28 ?hXa29 ?hXl29 ?hXc29 ?hXk29 ?hXa30 ?hXl30 ?hXc30 ?hXk30 ?hXa31 ?hXl31 ?hXc31 ?hXk31 ?hXa32 ?hXl32 ?hXc32 ?hXk32 ?hXa33 ?hXl33 ?hXc33 ?hXk33 ?hXa34 ?hXl34 ?hXc34 ?hXk34 ?hXa35 ?hXl35 ?hXc35 ?hXk35 ?hXa36 ?hXl36 ?hXc36 ?hXk36 ?hXa37 ?hXl37 ?hXc37 ?hXk37 ?hXa38 ?hXl38 ?hXc38 ?hXk38 ?hXa39 ?hXl39 ?hXc39 ?hXk39 ?hXa40 ?hXl40 ?hXc40 ?hXk40 ?hXa41 ?hXl41 ?hXc41 ?hXk41 ?hXa42 ?hXl42 ?hXc42 ?hXk42 ?hXz1 ?hXz2 ?hXz3 ?hXz4 ?hXz5 ?hXz6 ?hXz7 ?hXz8 ?hXz9 ?hXz10 ?hXz11 ?hXz12 ?hXz13 ?hXz14 ?hXz15 ?hXz16 ?hXz17 ?hXy1 ?hXy2 ?hXg0 ?hXw0 ?hXeb0 ?hXty0 ?hXga0 ?hXgg0 ?hXhd0 ?hXxL0 ?hXrv0 ?hXsa0 ?hXno0 ?hXiC0 ?hXtC0 ?hXve0 ?hXme0 ?hXte0 ?hXsu0 ?hXli0 ?hXci0 ?hXlu0 ?hXlv0 ?hXvv0 ?hXfi0 ?hXhl0 ?hXg1 ?hXw1 ?hXeb1 ?hXty1 ?hXx1 ?hXg2 ?hXw2 ?hXeb2 ?hXty2 ?hXx2 ?hXg3 ?hXw3 ?hXeb3 ?hXty3 ?hXx3 ?hXop ?hXtp
    (case hXa1 => k_is)
    (case hXl1 => k_is)
    (case hXc1 => k_is)
    (case hXk1 => k_is)
    (case hXa2 => k_is)
    (case hXl2 => k_is)
    (case hXc2 => k_is)
    (case hXk2 => k_is)
    (case hXa3 => k_is)
    (case hXl3 => k_is)
    (case hXc3 => k_is)
    (case hXk3 => k_is)
    (case hXa4 => k_is)
    (case hXl4 => k_is)
    (case hXc4 => k_is)
    (case hXk4 => k_is)
    (case hXa5 => k_is)
    (case hXl5 => k_is)
    (case hXc5 => k_is)
    (case hXk5 => k_is)
    (case hXa6 => k_is)
    (case hXl6 => k_is)
    (case hXc6 => k_is)
    (case hXk6 => k_is)
    (case hXa7 => k_is)
    (case hXl7 => k_is)
    (case hXc7 => k_is)
    (case hXk7 => k_is)
    (case hXa8 => k_is)
    (case hXl8 => k_is)
    (case hXc8 => k_is)
    (case hXk8 => k_is)
    (case hXa9 => k_is)
    (case hXl9 => k_is)
    (case hXc9 => k_is)
    (case hXk9 => k_is)
    (case hXa10 => k_is)
    (case hXl10 => k_is)
    (case hXc10 => k_is)
    (case hXk10 => k_is)
    (case hXa11 => k_is)
    (case hXl11 => k_is)
    (case hXc11 => k_is)
    (case hXk11 => k_is)
    (case hXa12 => k_is)
    (case hXl12 => k_is)
    (case hXc12 => k_is)
    (case hXk12 => k_is)
    (case hXa13 => k_is)
    (case hXl13 => k_is)
    (case hXc13 => k_is)
    (case hXk13 => k_is)
    (case hXa14 => k_is)
    (case hXl14 => k_is)
    (case hXc14 => k_is)
    (case hXk14 => k_is)
    (case hXa15 => k_is)
    (case hXl15 => k_is)
    (case hXc15 => k_is)
    (case hXk15 => k_is)
    (case hXa16 => k_is)
    (case hXl16 => k_is)
    (case hXc16 => k_is)
    (case hXk16 => k_is)
    (case hXa17 => k_is)
    (case hXl17 => k_is)
    (case hXc17 => k_is)
    (case hXk17 => k_is)
    (case hXa18 => k_is)
    (case hXl18 => k_is)
    (case hXc18 => k_is)
    (case hXk18 => k_is)
    (case hXa19 => k_is)
    (case hXl19 => k_is)
    (case hXc19 => k_is)
    (case hXk19 => k_is)
    (case hXa20 => k_is)
    (case hXl20 => k_is)
    (case hXc20 => k_is)
    (case hXk20 => k_is)
    (case hXa21 => k_is)
    (case hXl21 => k_is)
    (case hXc21 => k_is)
    (case hXk21 => k_is)
    (case hXa22 => k_is)
    (case hXl22 => k_is)
    (case hXc22 => k_is)
    (case hXk22 => k_is)
    (case hXa23 => k_is)
    (case hXl23 => k_is)
    (case hXc23 => k_is)
    (case hXk23 => k_is)
    (case hXa24 => k_is)
    (case hXl24 => k_is)
    (case hXc24 => k_is)
    (case hXk24 => k_is)
    (case hXa25 => k_is)
    (case hXl25 => k_is)
    (case hXc25 => k_is)
    (case hXk25 => k_is)
    (case hXa26 => k_is)
    (case hXl26 => k_is)
    (case hXc26 => k_is)
    (case hXk26 => k_is)
    (case hXa27 => k_is)
    (case hXl27 => k_is)
    (case hXc27 => k_is)
    (case hXk27 => k_is)
    (case hXa28 => k_is)
    (case hXl28 => k_is)
    (case hXc28 => k_is)
    (case hXk28 => k_is)
    (case hXa29 => k_is)
    (case hXl29 => k_is)
    (case hXc29 => k_is)
    (case hXk29 => k_is)
    (case hXa30 => k_is)
    (case hXl30 => k_is)
    (case hXc30 => k_is)
    (case hXk30 => k_is)
    (case hXa31 => k_is)
    (case hXl31 => k_is)
    (case hXc31 => k_is)
    (case hXk31 => k_is)
    (case hXa32 => k_is)
    (case hXl32 => k_is)
    (case hXc32 => k_is)
    (case hXk32 => k_is)
    (case hXa33 => k_is)
    (case hXl33 => k_is)
    (case hXc33 => k_is)
    (case hXk33 => k_is)
    (case hXa34 => k_is)
    (case hXl34 => k_is)
    (case hXc34 => k_is)
    (case hXk34 => k_is)
    (case hXa35 => k_is)
    (case hXl35 => k_is)
    (case hXc35 => k_is)
    (case hXk35 => k_is)
    (case hXa36 => k_is)
    (case hXl36 => k_is)
    (case hXc36 => k_is)
    (case hXk36 => k_is)
    (case hXa37 => k_is)
    (case hXl37 => k_is)
    (case hXc37 => k_is)
    (case hXk37 => k_is)
    (case hXa38 => k_is)
    (case hXl38 => k_is)
    (case hXc38 => k_is)
    (case hXk38 => k_is)
    (case hXa39 => k_is)
    (case hXl39 => k_is)
    (case hXc39 => k_is)
    (case hXk39 => k_is)
    (case hXa40 => k_is)
    (case hXl40 => k_is)
    (case hXc40 => k_is)
    (case hXk40 => k_is)
    (case hXa41 => k_is)
    (case hXl41 => k_is)
    (case hXc41 => k_is)
    (case hXk41 => k_is)
    (case hXa42 => k_is)
    (case hXl42 => k_is)
    (case hXc42 => k_is)
    (case hXk42 => k_is)
    (case hXz1 => k_is)
    (case hXz2 => k_is)
    (case hXz3 => k_is)
    (case hXz4 => k_is)
    (case hXz5 => k_is)
    (case hXz6 => k_is)
    (case hXz7 => k_is)
    (case hXz8 => k_is)
    (case hXz9 => k_is)
    (case hXz10 => k_is)
    (case hXz11 => k_is)
    (case hXz12 => k_is)
    (case hXz13 => k_is)
    (case hXz14 => k_is)
    (case hXz15 => k_is)
    (case hXz16 => k_is)
    (case hXz17 => k_is)
    (case hXy1 => k_is)
    (case hXy2 => k_is)
    (case hXg0 => k_is)
    (case hXw0 => k_is)
    (case hXeb0 => k_is)
    (case hXty0 => k_is)
    (case hXga0 => k_is)
    (case hXgg0 => k_is)
    (case hXhd0 => k_is)
    (case hXxL0 => k_is)
    (case hXrv0 => first | rfl | decide +kernel)
    (case hXsa0 => k_is)
    (case hXno0 => k_is)
    (case hXiC0 => k_is)
    (case hXtC0 => k_is)
    (case hXve0 => k_is)
    (case hXme0 => k_is)
    (case hXte0 => kernel_rfl)
    (case hXsu0 => kernel_rfl)
    (case hXli0 => k_is)
    (case hXci0 => k_is)
    (case hXlu0 => k_is)
    (case hXlv0 => k_is)
    (case hXvv0 => rfl)
    (case hXfi0 => first | rfl | decide +kernel)
    (case hXhl0 => rfl)
    (case hXg1 => k_is)
    (case hXw1 => k_is)
    (case hXeb1 => k_is)
    (case hXty1 => k_is)
    (case hXx1 => first | k_exc | kernel_rfl)
    (case hXg2 => k_is)
    (case hXw2 => k_is)
    (case hXeb2 => k_is)
    (case hXty2 => k_is)
    (case hXx2 => first | k_exc | kernel_rfl)
    (case hXg3 => k_is)
    (case hXw3 => k_is)
    (case hXeb3 => k_is)
    (case hXty3 => k_is)
    (case hXx3 => first | k_exc | kernel_rfl)
    (case hXop => k_is)
    (case hXtp => first | rfl | decide +kernel)
