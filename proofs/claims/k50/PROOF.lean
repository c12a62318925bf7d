import PyProof.Rows.All
import Wide.All
import OpenK.AllK
import Wide.FinOn
import HandS.ForMost
import HandS.Evl
import HandS.Steps
import HandS.Wide
import HandS.IsInst
import HandS.Exc
import HandS.ExcOwn
import HandS.TryOnly
import HandS.WordsExc
import HandS.Defaults
import HandS.ExcSuper
import PyProof.ReprRoads
import PyProof.ReprLen
import HandS.FStr
import HandS.Style
import KE.KExcSuper
import KE.KSuper
import HandS.TryMany
import HandS.ExcIs
import KE.KExcIs
import HandS.ExcCtx
import HandS.HotCalls
import PyProof.Rows.TupIter
import PyProof.Rows.TupAssign
import HandS.ExcValue
import PySem.Challenge.RW_imagetones_k50_errors_of_texts
set_option Elab.async false
set_option linter.all false
set_option maxRecDepth 100000
namespace HX
open PySem PySem.Spec PyProof.Rows L2

/-! ### defs whose callers are known to be no repr of anything (so repr's own guard is silent) -/
structure FnG (P : Program) (w : World) (K : PySem.W.Frag) (mg : Str → Option Value) (base : Heap) (CX : CXT) (k : Nat) (f : Addr) (fd : FuncData) (ps : List Str) (sp : Sp) : Prop where
  len : ∀ vs H Q E, sp vs H Q E → vs.length = ps.length
  run : ∀ (A : Around) (outer : List Env) (s : Shared) (H : Hp) (args : Args) (us : List Value) (vs : List V) (Q : VK) (E : XK),
    A.guards = some [] → Room k A → Env0 P w K mg base A outer s H → BindsTo s fd args (ps.zip us) → Vals vs us → sp vs H Q E →
      codeAny (model P w) A (.call (.ref f) args) (CR CX outer P w H s Q E) s

section
variable {P : Program} {w : World} {K : PySem.W.Frag} {mg : Str → Option Value} {base : Heap} {CX : CXT} {k j : Nat} {f : Addr} {fd : FuncData} {ps : List Str} {sp : Sp}
theorem FnG.of (F : FnOk P w K mg base CX k f fd ps sp) : FnG P w K mg base CX k f fd ps sp :=
  ⟨F.len, fun A outer s H args us vs Q E _ => F.run A outer s H args us vs Q E⟩
theorem FnG.mono (F : FnG P w K mg base CX j f fd ps sp) (h : j ≤ k) : FnG P w K mg base CX k f fd ps sp :=
  ⟨F.len, fun A outer s H args us vs Q E g r => F.run A outer s H args us vs Q E g (r.mono h)⟩

theorem okG {x qual : Str} {st : Stmt} {N : List Str} (F : Fun K x qual st f fd) (S : FnScope N ps (defScope st)) (len : ∀ vs H Q E, sp vs H Q E → vs.length = ps.length)
    (hbody : ∀ (cdv : Value) (A : Around) (outer : List Env) (s : Shared) (H : Hp) (vs : List V) (Q : VK) (E : XK), A.guards = some [] →
      Room k (A.deeper (envOfC qual (defScope st) s.heap.objs.size f cdv)) → sp vs H Q E →
      ∃ t, PSs (cxOf CX P w K mg base N qual (defScope st) f cdv A outer s H E) (defBody st) t ∧ t { nx := fun _ H' => Q .non H', rt := Q } (start N vs) H) :
    FnG P w K mg base CX (k + 1) f fd ps sp := by
  obtain ⟨oc, od, kV, doc, pm, an, cdv, ct, osl, rfl, lk, hcd⟩ := F.ex
  constructor
  · exact len
  intro A outer s H args us vs Q E hgd hr e0 hb r hsp
  have hl := len _ _ _ _ hsp
  have kept : ∀ b o, base.get? b = some o → s.heap.get? b = some o := fun b o e => (e0.bs b o e).1
  have KX : K.In s.heap := e0.mod.kin.keeps kept
  have lim : s.heap.NoLimit := e0.mod.nolimit.keeps kept
  have hkind : ∀ y ∈ ps.zip us, (defScope st).names.lookup y.1 = some .local ∨
      ((defScope st).names.lookup y.1 = some .cell ∧ ((cellsFrom (s.heap.objs.size + 1) (defScope st).names []).lookup y.1).isSome = true) := by
    rintro ⟨n, v⟩ hy
    rcases S.par n (List.of_mem_zip hy).1 with q | q
    · exact .inl q
    · exact .inr ⟨q, PySem.W.cellsFrom_some _ _ _ (.inl q)⟩
  apply codeAny_call_function hr.depth (KX _ _ lk) rfl S.co S.gen rfl (PySem.W.codeRec_of KX hcd)
  apply hb
  refine wpAny_newFunctionEnv_cells S.kind hkind fun env he s1 x => ?_
  subst he
  refine ⟨lim.keeps x.toInCall.keep, codeAny_func ?_⟩
  obtain ⟨t, ht, hq⟩ := hbody cdv A outer s H vs Q E hgd (hr.deeper _) hsp
  have I := inv_start (CX := CX) (E := E) S hr.hd e0 hl r x
  refine wpAny_mono (ht.run [] s1 (start N vs) H _ I hq) (fun fl s' hs => ?_) fun e s' hs => hs
  cases fl with
  | ret u => obtain ⟨v, σ', H', J, rv, q⟩ := hs; exact ⟨v, H', J.os, J.bare, J.base, J.hok, rv, q⟩
  | next => obtain ⟨σ', H', J, q⟩ := hs; exact ⟨V.non, H', J.os, J.bare, J.base, J.hok, rfl, q⟩
  | brk => obtain ⟨_, _, _, q⟩ := hs; exact q.elim
  | cont => obtain ⟨_, _, _, q⟩ := hs; exact q.elim
end

section
variable {X : Cx} {CX : CXT} {k : Nat} {f : Addr} {fd : FuncData} {ps : List Str} {sp : Sp} {dvs : List V} {ds : List Value} {E : XK} {x : Str} {p pos : Pos} {e : Expr} {es : List Expr} {t : TA}
theorem run_g {pins : List (Addr × Obj)} {σ : L2.St} {H : Hp} {s : Shared} {Q : VK} {us : List Value} {vs : List V} (F : FnG X.prog X.w X.K X.mg X.base CX k f fd ps sp) (hgd : X.A.guards = some []) (hr : Room k X.A)
    (hb : Binds X.K fd ps ds) (hd : Vals dvs ds) (hx : Passes CX X E) (I : Inv X pins σ H s) (r : Vals vs us) (h : sp (vs ++ dvs) H Q E) :
    wpAny (model X.prog X.w) X.A (call (.ref f) us) (EP X pins σ Q) X.xe s := by
  have r2 : Vals (vs ++ dvs) (us ++ ds) := r.append hd
  have hl : (us ++ ds).length = ps.length := r2.length.symm.trans (F.len _ _ _ _ h)
  apply wpAny_call
  refine codeAny_mono (F.run X.A X.stack s H ⟨us, []⟩ (us ++ ds) (vs ++ dvs) Q E hgd hr I.env0 (hb s us I.kIn hl) r2 h) ?_
  intro r s' hq
  match r, hq with
  | .error e, hq => exact hx pins σ H s e s' I hq
  | .ok (.ret u), hq => exact I.after hq

/-- f(e, ..) of such a def -/
theorem pe_callG (F : FnG X.prog X.w X.K X.mg X.base CX k f fd ps sp) (hgd : X.A.guards = some []) (hr : Room k X.A) (hg : Gl X x) (hm : X.mg x = some (.ref f)) (hk : PySem.W.keepIn X.K (.ref f) = true)
    (hb : Binds X.K fd ps ds) (hd : Vals dvs ds) (hx : Passes CX X E) (ha : PA X (e :: es) t) (hdb : (x == ("__debug__" : Str)) = false := by decide)
    (he : starEach (e :: es) X.env = (false, eval e X.env) :: starEach es X.env := by rfl) (hpl : (backTo pos (starEach es X.env)).any (·.1) = false := by rfl) :
    PE X (.Call (.Name x p) (e :: es) [] pos) (tCall sp dvs E t) := by
  constructor
  intro pins s σ H Q I h
  apply wpAny_Call_Name_kw
  refine ld_glob I hg hm ?_ hdb
  refine PySem.W.callWith_K (h₀ := X.base) I.ok.mod.kin hk ?_ he hpl
  refine thn (ha.run pos pins s σ H _ I h) ?_
  rintro us s1 ⟨vs, H1, I1, r, q⟩
  exact ⟨I1.kIn, run_g F hgd hr hb hd hx I1 r q⟩
end

/-! ### numbers -/
section
variable {X : Cx}
/-- ** of a base of at most b bits with a written exponent -/
def CPowW (i j : Int) : Prop := 0 ≤ j ∧ (Builtin.Int.intBits i : Int) * j ≤ 2 ^ 27
theorem op_powW : OpR X (binaryOp .Pow) (rI CPowW fun i j => .int (i ^ j.toNat)) := opI fun _ _ _ _ _ _ _ hc q => PyProof.Rows.pow_int hc.1 hc.2 q
end
theorem wide_pow {i j : Int} {b : Nat} (h : i.natAbs < 2 ^ b) (h0 : 0 ≤ j) (hb : ((b : Int) + 1) * j ≤ 2 ^ 27) : CPowW i j := by
  have hle : Builtin.Int.intBits i ≤ b + 1 := by
    unfold Builtin.Int.intBits
    split
    · omega
    · rename_i hz
      by_cases hb0 : b = 0
      · subst hb0
        have hz0 : i.natAbs = 0 := by simpa using h
        rw [hz0]
        decide
      · have hq : i.natAbs.log2 < b := PySem.Flt.log2_lt_of (Nat.pos_of_ne_zero hb0) h
        omega
  refine ⟨h0, Int.le_trans ?_ hb⟩
  exact Int.mul_le_mul_of_nonneg_right (by omega) h0
end HX

set_option Elab.async false
set_option linter.all false
set_option maxRecDepth 100000
namespace HX
open PySem PySem.Spec PyProof.Rows L2

/-! ### data at any depth that is tracked: none, bools, ints, texts, lists, tuples, the empty dict -/
mutual
inductive Dq (H : Hp) : V → PyData → Prop
  | non : Dq H .non .none
  | bl (b : Bool) : Dq H (.bl b) (.bool b)
  | int (i : Int) : Dq H (.int i) (.int i)
  | str (x : Str) : Dq H (.str x) (.str x)
  | lst {a : Addr} {xs : List V} {ds : List PyData} : Rd H a (.lst xs) → DqAll H xs ds → Dq H (.ref a) (.list ds)
  | tup {a : Addr} {xs : List V} {ds : List PyData} : Rd H a (.tup xs) → DqAll H xs ds → Dq H (.ref a) (.tuple ds)
  | dic {a : Addr} : H a = some (.dK []) → Dq H (.ref a) (.dict [])
  | dic1 {a : Addr} {x : Str} {i : Int} : H a = some (.dK [(.inr x, .int i)]) → Dq H (.ref a) (.dict [(.str x, .int i)])
inductive DqAll (H : Hp) : List V → List PyData → Prop
  | nil : DqAll H [] []
  | cons {v : V} {vs : List V} {d : PyData} {ds : List PyData} : Dq H v d → DqAll H vs ds → DqAll H (v :: vs) (d :: ds)
end

open Evl (Ex)
mutual
theorem Dq.ex {H H' : Hp} (e : Ex H H') : ∀ {v : V} {d : PyData}, Dq H v d → Dq H' v d
  | _, _, .non => .non
  | _, _, .bl b => .bl b
  | _, _, .int i => .int i
  | _, _, .str x => .str x
  | _, _, .lst h k => .lst (Evl.ex_rd e h) (DqAll.ex e k)
  | _, _, .tup h k => .tup (Evl.ex_rd e h) (DqAll.ex e k)
  | _, _, .dic h => .dic (e _ _ h)
  | _, _, .dic1 h => .dic1 (e _ _ h)
theorem DqAll.ex {H H' : Hp} (e : Ex H H') : ∀ {vs : List V} {ds : List PyData}, DqAll H vs ds → DqAll H' vs ds
  | _, _, .nil => .nil
  | _, _, .cons h k => .cons (Dq.ex e h) (DqAll.ex e k)
end
theorem DqAll.len {H : Hp} : ∀ {vs : List V} {ds : List PyData}, DqAll H vs ds → vs.length = ds.length
  | _, _, .nil => rfl
  | _, _, .cons _ k => congrArg (· + 1) k.len
theorem DqAll.app {H : Hp} : ∀ {vs ws : List V} {ds es : List PyData}, DqAll H vs ds → DqAll H ws es → DqAll H (vs ++ ws) (ds ++ es)
  | _, _, _, _, .nil, k => k
  | _, _, _, _, .cons h t, k => .cons h (t.app k)
theorem DqAll.get {H : Hp} : ∀ {vs : List V} {ds : List PyData} {i : Nat} {v : V}, DqAll H vs ds → vs[i]? = some v → ∃ d, ds[i]? = some d ∧ Dq H v d
  | _, _, _, _, .nil, e => by simp at e
  | _, _, 0, _, .cons h _, e => by simp at e; subst e; exact ⟨_, rfl, h⟩
  | _, _, i + 1, v, .cons _ t, e => by
    obtain ⟨d, h1, h2⟩ := DqAll.get (i := i) (v := v) t (by simpa using e)
    exact ⟨d, by simpa using h1, h2⟩
theorem DqAll.one {H : Hp} {v : V} {d : PyData} (h : Dq H v d) : DqAll H [v] [d] := .cons h .nil
theorem DqAll.rep {H : Hp} {v : V} {d : PyData} (h : Dq H v d) : ∀ n, DqAll H (List.replicate n v) (List.replicate n d)
  | 0 => .nil
  | n + 1 => .cons h (DqAll.rep h n)
theorem DqAll.take {H : Hp} : ∀ {vs : List V} {ds : List PyData} (n : Nat), DqAll H vs ds → DqAll H (vs.take n) (ds.take n)
  | _, _, 0, _ => by simpa using DqAll.nil
  | _, _, _ + 1, .nil => by simpa using DqAll.nil
  | _, _, n + 1, .cons h t => by simpa using DqAll.cons h (t.take n)
theorem DqAll.drop {H : Hp} : ∀ {vs : List V} {ds : List PyData} (n : Nat), DqAll H vs ds → DqAll H (vs.drop n) (ds.drop n)
  | _, _, 0, k => by simpa using k
  | _, _, _ + 1, .nil => by simpa using DqAll.nil
  | _, _, n + 1, .cons h t => by simpa using t.drop n
/-- an object of data is none that changes: what changes is elsewhere -/
theorem dq_ne {H : Hp} {a : Addr} {o u : HO} (h : H a = some o) (k : Rd H a u) (d : o ≠ u) (f : ∀ ob, o ≠ .frz ob u) : False := by
  rcases k with k | ⟨ob, k⟩
  · exact d (Option.some.inj (h.symm.trans k))
  · exact f ob (Option.some.inj (h.symm.trans k))

mutual
theorem Dq.dp {K : PySem.W.Frag} {H : Hp} : ∀ {v : V} {d : PyData}, Dq H v d → d.hasDict = false → Dp K H v d
  | _, _, .non, _ => .non
  | _, _, .bl b, _ => .bl b
  | _, _, .int i, _ => .int i
  | _, _, .str x, _ => .str x
  | _, _, .lst h k, e => .lst (.inl h) (DqAll.dp k (by simpa [PyData.hasDict] using e))
  | _, _, .tup h k, e => .tup (.inl h) (DqAll.dp k (by simpa [PyData.hasDict] using e))
  | _, _, .dic h, e => by simp [PyData.hasDict] at e
  | _, _, .dic1 h, e => by simp [PyData.hasDict] at e
theorem DqAll.dp {K : PySem.W.Frag} {H : Hp} : ∀ {vs : List V} {ds : List PyData}, DqAll H vs ds → PyData.hasDictAll ds = false → DpAll K H vs ds
  | _, _, .nil, _ => .nil
  | _, _, .cons h k, e => by
    simp only [PyData.hasDictAll, Bool.or_eq_false_iff] at e
    exact .cons (h.dp e.1) (k.dp e.2)
end

theorem dic1_shw {x : Str} {i : Int} (hs : (PyData.dict [(.str x, .int i)]).showable = true) (hz : (PyData.dict [(.str x, .int i)]).shown.length ≤ sizeLine) : ((PyData.int i).showable = true ∧ (PyData.str x).showable = true) ∧ (reprText x).length ≤ sizeLine := by
  have hi : (PyData.int i).showable = true ∧ (PyData.str x).showable = true := by
    simp only [PyData.showable, PyData.showableKv, Bool.and_eq_true] at hs ⊢
    exact ⟨hs.1.2, trivial⟩
  have hx : (reprText x).length ≤ sizeLine := by
    have h1 := dictText_mem_le (ps := PyData.shownKv [(.str x, .int i)]) (p := reprText x ++ ": " ++ Str.ofString (toString i)) (by simp only [PyData.shownKv, PyData.shown]; exact List.mem_cons_self)
    have h2 : (PyData.dict [(.str x, .int i)]).shown = dictText (PyData.shownKv [(.str x, .int i)]) := by simp only [PyData.shown]
    rw [h2] at hz
    have h3 : (reprText x).length ≤ (reprText x ++ ": " ++ Str.ofString (toString i)).length := by
      show (reprText x).cps.size ≤ ((reprText x).cps ++ _ ++ _).size
      simp only [Array.size_append]
      omega
    omega
  exact ⟨hi, hx⟩
section
variable {X : Cx} {pins : List (Addr × Obj)} {σ : L2.St} {H : Hp} {s : Shared}
/-- an empty dict that is tracked, as the heap has it -/
theorem dic_at (I : Inv X pins σ H s) {a : Addr} (h : H a = some (.dK [])) : ∃ o n, s.heap.get? a = some o ∧ o.cls = .type "dict" ∧ o.data = .dict #[] n ∧ (a == sysModules) = false := by
  obtain ⟨_, hsys, vs, kv, o, es, ep, h1, h2, h3, h4⟩ := (show ObjOk X.prog X.w H s.heap a (.dK []) from I.hok a _ h)
  cases kv
  have he : es.toList = [] := List.length_eq_zero_iff.mp (by simpa using h4.2.1.length)
  have he2 : es = #[] := by cases es; simpa using he
  exact ⟨o, ep, h1, h2.1, by rw [← he2]; exact h3, hsys⟩
/-- a dict of one text with an int, as the heap has it -/
theorem dic1_at (I : Inv X pins σ H s) {a : Addr} {x : Str} {i : Int} (h : H a = some (.dK [(.inr x, .int i)])) : ∃ o n ky t1 t2, s.heap.get? a = some o ∧ o.cls = .type "dict" ∧ o.data = .dict #[⟨ky, .str x t1, .int i t2⟩] n ∧ (a == sysModules) = false := by
  obtain ⟨_, hsys, vs, kv, o, es, ep, h1, h2, h3, h4⟩ := (show ObjOk X.prog X.w H s.heap a (.dK [(.inr x, .int i)]) from I.hok a _ h)
  cases kv with
  | @cons p q l m hp hr =>
    cases hr
    obtain ⟨e1, e2⟩ := hp
    obtain ⟨_, pr, _⟩ := h4
    cases es with
    | mk l =>
      cases pr with
      | @cons e kv es kvs k1 k2 t =>
        cases t
        obtain ⟨ky, key, val⟩ := e
        dsimp only at k1 k2 e1 e2
        rw [← e1] at k1
        rcases keyIs_shape (show keyIs (Sum.inr x) key = true from k1) with ⟨j, t, q1, q2⟩ | ⟨y, t, q1, q2⟩
        · cases q1
        · cases q1
          obtain ⟨t2, e3⟩ := (show ∃ t2, q.2 = Value.int i t2 from e2)
          exact ⟨o, ep, ky, t, t2, h1, h2.1, by rw [h3, q2, k2, e3], hsys⟩
mutual
theorem Dq.rk (I : Inv X pins σ H s) : ∀ {d : PyData} {v : V} {u : Value}, Dq H v d → RelV v u → d.showable = true → d.shown.length ≤ sizeLine →
    ∃ as bs, Reads s.heap u d as ∧ ReadAtMost s.heap d.depth bs ∧ ReprK X.prog X.w bs s.heap d.depth u d.shown
  | _, _, _, .non, r, _, _ => by cases r; exact ⟨_, [], Reads.none, (fun _ h => nomatch h), by simp only [PyData.shown]; exact .of_is ReprIs.none _ _ _⟩
  | _, _, _, .bl b, r, _, _ => by cases r; exact ⟨_, [], Reads.bool b, (fun _ h => nomatch h), by simp only [PyData.shown]; exact .of_is (ReprIs.bool b) _ _ _⟩
  | _, _, _, .int i, r, hs, _ => by
    obtain ⟨t, rfl⟩ := r
    exact ⟨_, [], Reads.int i t, (fun _ h => nomatch h), by simp only [PyData.shown]; exact .of_is (ReprIs.int t (by simpa [PyData.showable] using hs)) _ _ _⟩
  | _, _, _, .str x, r, _, hz => by
    obtain ⟨t, rfl⟩ := r
    exact ⟨_, [], Reads.str x t, (fun _ h => nomatch h), by simp only [PyData.shown]; exact .of_is (ReprIs.str x t (by simpa only [PyData.shown] using hz)) _ _ _⟩
  | _, _, _, .lst (a := a) (ds := ds) hs ha, r, hw, hz => by
    cases r
    have hz' : (listText (PyData.shownAll ds)).length ≤ sizeLine := by simpa only [PyData.shown] using hz
    obtain ⟨its, rv, ⟨o, n, ho, hc, _, hd⟩, _⟩ := I.list (X := X) (Or.inl hs)
    obtain ⟨as, bs, hr, hb, hk⟩ := DqAll.rk I ha rv (by simpa [PyData.showable] using hw) (fun t ht => Nat.le_trans (listText_mem_le ht) hz')
    have r : Reads s.heap (.ref a) (.list ds) _ := .list ho hc hd (by simpa using hr)
    have hna : a ∉ bs := not_mem_of_deeper r (by simp only [PyData.depth]; omega) hb
    refine ⟨_, a :: bs, r, ReadAtMost.cons r (by simp only [PyData.depth]; omega) hb, ?_⟩
    simp only [PyData.depth, PyData.shown]
    cases its with
    | nil =>
      cases hr
      simp only [PyData.shownAll, listText_nil]
      exact ReprK.listEmpty ho hc hd
    | cons x l => exact ReprK.list ho hc hd hna (by simpa using hk.length_eq) (fun i y e => hk.item i y (by simpa using e))
  | _, _, _, .tup (a := a) (ds := ds) hs ha, r, hw, hz => by
    cases r
    have hz' : (tupleText (PyData.shownAll ds)).length ≤ sizeLine := by simpa only [PyData.shown] using hz
    obtain ⟨its, rv, ⟨o, ho, hc, n, hd⟩, _⟩ := I.tuple (X := X) (Or.inl hs)
    obtain ⟨as, bs, hr, hb, hk⟩ := DqAll.rk I ha rv (by simpa [PyData.showable] using hw) (fun t ht => Nat.le_trans (tupleText_mem_le ht) hz')
    have r : Reads s.heap (.ref a) (.tuple ds) _ := .tuple ho hc hd (by simpa using hr)
    have hna : a ∉ bs := not_mem_of_deeper r (by simp only [PyData.depth]; omega) hb
    refine ⟨_, a :: bs, r, ReadAtMost.cons r (by simp only [PyData.depth]; omega) hb, ?_⟩
    simp only [PyData.depth, PyData.shown]
    exact ReprK.tuple ho hc hd hna (by simpa using hk)
  | _, _, _, .dic (a := a) ha, r, _, _ => by
    cases r
    obtain ⟨o, n, ho, hc, hd, hsys⟩ := dic_at I ha
    have r : Reads s.heap (.ref a) (.dict []) _ := .dict (kvs := []) ho hc hd .nil .nil
    refine ⟨_, [a], r, ReadAtMost.cons r (Nat.le_refl _) (fun _ h => nomatch h), ?_⟩
    simp only [PyData.depth, PyData.shown, PyData.shownKv]
    exact ReprK.dict ho hc hd hsys (by simp) .nil
  | _, _, _, .dic1 (a := a) (x := x) (i := i) ha, r, hs, hz => by
    cases r
    obtain ⟨o, n, ky, t1, t2, ho, hc, hd, hsys⟩ := dic1_at I ha
    obtain ⟨hi, hx⟩ := dic1_shw hs hz
    have r : Reads s.heap (.ref a) (.dict [(.str x, .int i)]) _ := .dict (kvs := [(.str x, .int i)]) ho hc hd (.cons (Reads.str x t1) .nil) (.cons (Reads.int i t2) .nil)
    refine ⟨_, [a], r, ReadAtMost.cons r (Nat.le_refl _) (fun _ h => nomatch h), ?_⟩
    simp only [PyData.depth, PyData.shown, PyData.shownKv]
    refine ReprK.dict ho hc hd hsys (by simp) (.cons (.of_is (ReprIs.str x t1 hx) _ _ _) (.of_is (ReprIs.int t2 (by simpa [PyData.showable] using hi.1)) _ _ _) .nil)
theorem DqAll.rk (I : Inv X pins σ H s) : ∀ {ds : List PyData} {vs : List V} {us : List Value}, DqAll H vs ds → Vals vs us → PyData.showableAll ds = true → (∀ t ∈ PyData.shownAll ds, t.length ≤ sizeLine) →
    ∃ as bs, ReadsAll s.heap us ds as ∧ ReadAtMost s.heap (PyData.depthAll ds) bs ∧ ReprAllK X.prog X.w bs s.heap (PyData.depthAll ds) us (PyData.shownAll ds)
  | _, _, _, .nil, r, _, _ => by cases r; exact ⟨_, [], ReadsAll.nil, (fun _ h => nomatch h), by simp only [PyData.shownAll]; exact .nil⟩
  | _, _, _, .cons (d := d) (ds := ds) h1 h2, r, hw, hz => by
    cases r with
    | cons r1 r2 =>
      have hw' : d.showable = true ∧ PyData.showableAll ds = true := by simpa [PyData.showableAll] using hw
      obtain ⟨as, b1, q1, z1, k1⟩ := Dq.rk I h1 r1 hw'.1 (hz _ (by simp only [PyData.shownAll]; exact List.mem_cons_self))
      obtain ⟨cs, b2, q2, z2, k2⟩ := DqAll.rk I h2 r2 hw'.2 (fun t ht => hz t (by simp only [PyData.shownAll]; exact List.mem_cons_of_mem _ ht))
      refine ⟨_, b1 ++ b2, ReadsAll.cons q1 q2, ?_, ?_⟩
      · simp only [PyData.depthAll]
        exact (z1.mono (Nat.le_max_left _ _)).append (z2.mono (Nat.le_max_right _ _))
      · simp only [PyData.depthAll, PyData.shownAll]
        exact .cons ((k1.more fun b hb => List.mem_append_left _ hb).level_le (Nat.le_max_left _ _)) (k2.more_le (fun b hb => List.mem_append_right _ hb) (Nat.le_max_right _ _))
end
end

/-! ### repr of data -/
/-- what is asked of data that is shown: its ints are no giants, its text is not too long, it is not too deep -/
def Shw (d : PyData) : Prop := d.showable = true ∧ d.shown.length ≤ sizeLine ∧ d.depth ≤ 60
def rRepr : List V → Hp → VK → Prop := fun xs H Q => ∃ x d, xs = [x] ∧ Dq H x d ∧ Shw d ∧ Q (.str d.shown) H
section
variable {X : Cx}
theorem call_repr (hgd : X.A.guards = some []) (hu : X.A.units + 64 < cLine) : CallR X (.builtin "repr") rRepr := by
  intro pins s σ H xs us Q I r h
  obtain ⟨x, d, rfl, hd, ⟨hs, hz, hdp⟩, q⟩ := h
  obtain ⟨u, rfl, rx⟩ := vals1 r
  have fin : ∀ (h' : Heap) (u : Tok) (tk : Nat), (∀ b o, s.heap.get? b = some o → h'.get? b = some o) → EP X pins σ Q (.str d.shown u) { s with heap := h', toks := tk } :=
    fun h' u tk hk => ⟨.str d.shown, H, I.kept hk, ⟨_, rfl⟩, q⟩
  cases hd with
  | non => cases rx; exact PySem.P.repr_of_none (by simpa [PyData.shown] using fin s.heap _ _ fun _ _ e => e)
  | bl b => cases rx; exact PySem.P.repr_of_bool (by simpa [PyData.shown] using fin s.heap _ _ fun _ _ e => e)
  | int i => obtain ⟨t, rfl⟩ := rx; exact PySem.P.repr_of_int (by simpa [PyData.showable] using hs) (by simpa [PyData.shown] using fin s.heap _ _ fun _ _ e => e)
  | str y => obtain ⟨t, rfl⟩ := rx; exact PySem.P.repr_of_str (by simpa [PyData.shown] using fin s.heap _ _ fun _ _ e => e) (by simpa [PyData.shown] using hz)
  | lst h1 h2 =>
    rename_i a xs ds
    cases rx
    have hz' : (listText (PyData.shownAll ds)).length ≤ sizeLine := by simpa only [PyData.shown] using hz
    obtain ⟨its, rv, ⟨o, n, ho, hc, _, hd⟩, _⟩ := I.list (X := X) (Or.inl h1)
    obtain ⟨as, bs, hr, hb, hk⟩ := DqAll.rk I h2 rv (by simpa [PyData.showable] using hs) (fun t ht => Nat.le_trans (listText_mem_le ht) hz')
    have hna : a ∉ bs := not_mem_of_deeper (.list ho hc hd (by simpa using hr)) (by simp only [PyData.depth]; omega) hb
    simp only [PyData.depth] at hdp
    simp only [PyData.shown] at fin
    refine call_repr_slot (by omega) ⟨o, ho, hc⟩ F.slot_list_repr.toG ?_
    cases its with
    | nil =>
      cases hr
      simp only [PyData.shownAll, listText_nil] at fin
      exact call_list_repr_empty ⟨o, ho, hc⟩ ho hd ⟨_, _, rfl, fin s.heap _ _ fun _ _ e => e⟩
    | cons x l =>
      exact call_list_reprK ho hc hd hna (by simpa using hk.length_eq) (fun i y e => hk.item i y (by simpa using e)) hgd (fun b _ => Clear.nil b) (by show X.A.units + 1 + _ < cLine; omega) (fun _ _ e => e)
        (fun h' u tk hk => ⟨_, _, rfl, fin h' u tk hk⟩) hz'
  | tup h1 h2 =>
    rename_i a xs ds
    cases rx
    have hz' : (tupleText (PyData.shownAll ds)).length ≤ sizeLine := by simpa only [PyData.shown] using hz
    obtain ⟨its, rv, ⟨o, ho, hc, n, hd⟩, _⟩ := I.tuple (X := X) (Or.inl h1)
    obtain ⟨as, bs, hr, hb, hk⟩ := DqAll.rk I h2 rv (by simpa [PyData.showable] using hs) (fun t ht => Nat.le_trans (tupleText_mem_le ht) hz')
    have hna : a ∉ bs := not_mem_of_deeper (.tuple ho hc hd (by simpa using hr)) (by simp only [PyData.depth]; omega) hb
    simp only [PyData.depth] at hdp
    simp only [PyData.shown] at fin
    exact call_repr_slot (by omega) ⟨o, ho, hc⟩ F.slot_tuple_repr
      (call_tuple_reprK ho hc hd hna (by simpa using hk) hgd (fun b _ => Clear.nil b) (by show X.A.units + 1 + _ < cLine; omega) (fun _ _ e => e) (fun h' u tk hk => ⟨_, _, rfl, fin h' u tk hk⟩) hz')
  | dic h1 =>
    cases rx
    obtain ⟨o, n, ho, hc, hd, hsys⟩ := dic_at I h1
    simp only [PyData.shown, PyData.shownKv] at fin hz
    exact call_repr_slot (by omega) ⟨o, ho, hc⟩ F.slot_dict_repr
      (call_dict_reprK (as := []) (d := 0) ho hc hd hsys (by simp) .nil hgd (fun b _ => Clear.nil b) (by show X.A.units + 1 + _ < cLine; omega) (fun _ _ e => e) (fun h' u tk hk => ⟨_, _, rfl, fin h' u tk hk⟩) hz)
  | dic1 h1 =>
    cases rx
    obtain ⟨o, n, ky, t1, t2, ho, hc, hd, hsys⟩ := dic1_at I h1
    obtain ⟨hi, hx⟩ := dic1_shw hs hz
    simp only [PyData.shown, PyData.shownKv] at fin hz
    exact call_repr_slot (by omega) ⟨o, ho, hc⟩ F.slot_dict_repr
      (call_dict_reprK (as := []) (d := 0) ho hc hd hsys (by simp) (.cons (.of_is (ReprIs.str _ t1 hx) _ _ _) (.of_is (ReprIs.int t2 (by simpa [PyData.showable] using hi.1)) _ _ _) .nil) hgd (fun b _ => Clear.nil b) (by show X.A.units + 1 + _ < cLine; omega) (fun _ _ e => e) (fun h' u tk hk => ⟨_, _, rfl, fin h' u tk hk⟩) hz)
end
end HX

set_option Elab.async false
set_option linter.all false
set_option maxRecDepth 100000
namespace HX
open PySem PySem.Spec PyProof.Rows L2

/-! ### the end of a law whose def is an FnG -/
section
variable {P : Program} {w : World} {K : PySem.W.Frag} {mg mb : Str → Option Value} {k : Nat} {fa a : Addr} {fd : FuncData} {x : Str} {sp : Sp} {s₁ : Shared} {vs : List Value} {ns : List Int}
/-- what is wanted of the law's call -/
def LawEnd (s₁ : Shared) : Result → Shared → Prop := fun r s' => r = .ok (.ret (.bool true)) ∧ OldK s₁.heap s'.heap ∧ s'.os = s₁.os ∧ AllBare s'.gens
/-- the tracked heap at the start: the script, or nothing -/
theorem law_from (KX : K.In s₁.heap) (hns : s₁.heap.Ns mainGlobals mg) (hb : s₁.heap.Ns builtinsNs mb) (hbb : ∀ x : Str, x ≠ "__name__" → mb x = bootBuiltins x) (hlim : s₁.heap.NoLimit) (hg : s₁.gens = #[])
    (hr : Room k callerA) (FF : ∀ base : Heap, K.In base → base.Ns mainGlobals mg → FnG P w K mg base CX0 k fa fd [x] sp) (hbind : ∀ (s : Shared) (u : Value), BindsTo s fd ⟨[u], []⟩ [(x, u)])
    (hsp : ∀ H : Hp, Only H → SqL K H a (ns.map V.int) → sp [.ref a] H (fun v _ => v = .bl true) fun _ _ _ => False)
    (H : Hp) (hO : Only H) (hS : SqL K H a (ns.map V.int)) (hok : HOk P w H s₁.heap) (hn : ∀ b o, s₁.heap.get? b = some o → H b ≠ none → o.cls = .type "list" ∧ ∃ its n, o.data = .seq its n) (hK : ∀ b o, K.lookup b = some o → H b = none) :
    codeAny (model P w) callerA (.call (.ref fa) ⟨[.ref a], []⟩) (LawEnd s₁) s₁ := by
  have up : ∀ {b : Addr} {m : Str → Option Value}, s₁.heap.Ns b m → (hidT s₁.heap H).Ns b m := by
    rintro b m ⟨o, es, ep, e, d, r⟩
    have hb0 : H b = none := by
      cases q : H b with
      | none => rfl
      | some u =>
        obtain ⟨_, its, n, z⟩ := hn b o e (by rw [q]; simp)
        rw [d] at z; cases z
    exact ⟨o, es, ep, hidT_get e hb0, d, r⟩
  have hKb : K.In (hidT s₁.heap H) := fun b o e => hidT_get (KX b o e) (hK b o e)
  obtain ⟨mc, l1, l2⟩ := hlim
  have hM : Mod K mg (hidT s₁.heap H) := ⟨hKb, up hns, ⟨mb, up hb, hbb⟩, mc, up l1, l2⟩
  have e0 : Env0 P w K mg (hidT s₁.heap H) callerA [] s₁ H :=
    { frames := rfl, mod := hM, bs := fun b o e => of_hidT e, bsz := Nat.le_of_eq (hidT_size _ _), funs := trivial, frf := fun b z => absurd (show b ∈ ([] : List Addr) from z) (by simp), hok := hok, bare := .of_eq hg }
  refine codeAny_mono ((FF _ hKb (up hns)).run callerA [] s₁ H ⟨[.ref a], []⟩ [.ref a] [.ref a] _ _ rfl hr e0 (hbind s₁ (.ref a)) (.cons rfl .nil) (hsp H hO hS)) ?_
  intro r s' h
  match r, h with
  | .error e, h => exact h.elim
  | .ok (.ret u), ⟨v, H', os, bare, un, hok', r', q⟩ =>
    have q' : v = .bl true := q
    subst q'
    cases (show u = Value.bool true from r')
    refine ⟨rfl, OldK.of_keep fun b o e => ?_, os, bare⟩
    rcases hO b with z | ⟨ob, xs, z⟩
    · exact un.keep b o e z (fun m => absurd (show b ∈ ([] : List Addr) from m) (by simp)) (by simp)
    · obtain ⟨e1, _⟩ := hok b _ z
      obtain ⟨e2, _⟩ := hok' b _ (un.frzs b ob _ z)
      rw [e] at e1; cases e1
      exact e2
theorem law_callG (KX : K.In s₁.heap) (hns : s₁.heap.Ns mainGlobals mg) (hb : s₁.heap.Ns builtinsNs mb) (hbb : ∀ x : Str, x ≠ "__name__" → mb x = bootBuiltins x) (hlim : s₁.heap.NoLimit) (hg : s₁.gens = #[])
    (ha : s₁.heap.get? a = some { cls := .type "list", data := .seq vs.toArray }) (hi : IntsAre vs ns) (hl : ns.length ≤ sizeLine)
    (hr : Room k callerA) (FF : ∀ base : Heap, K.In base → base.Ns mainGlobals mg → FnG P w K mg base CX0 k fa fd [x] sp) (hbind : ∀ (s : Shared) (u : Value), BindsTo s fd ⟨[u], []⟩ [(x, u)])
    (hsp : ∀ H : Hp, Only H → SqL K H a (ns.map V.int) → sp [.ref a] H (fun v _ => v = .bl true) fun _ _ _ => False) :
    codeAny (model P w) callerA (.call (.ref fa) ⟨[.ref a], []⟩) (LawEnd s₁) s₁ := by
  have rv := vals_ints hi
  have lenV := hi.length
  cases hk : K.lookup a with
  | some o =>
    have e := KX a o hk
    rw [ha] at e
    cases e
    have hS : SqL K (fun _ => none) a (ns.map V.int) := .inr ⟨_, vs.toArray, _, hk, rfl, rfl, rfl, by rw [List.size_toArray, lenV]; exact hl, by simpa using rv⟩
    exact law_from KX hns hb hbb hlim hg hr FF hbind hsp (fun _ => none) (fun _ => .inl rfl) hS (fun b u z => nomatch z) (fun b o _ z => absurd rfl z) (fun _ _ _ => rfl)
  | none =>
    let H : Hp := fun b => if b = a then some (.frz { cls := .type "list", data := .seq vs.toArray } (.lst (ns.map V.int))) else none
    have Ha : H a = some (.frz { cls := .type "list", data := .seq vs.toArray } (.lst (ns.map V.int))) := if_pos rfl
    have Hn : ∀ b, b ≠ a → H b = none := fun b z => if_neg z
    refine law_from KX hns hb hbb hlim hg hr FF hbind hsp H (fun b => ?_) (.inl (.inr ⟨_, Ha⟩)) (fun b u z => ?_) (fun b o e z => ?_) (fun b o e => ?_)
    · by_cases hb : b = a
      · subst hb; exact .inr ⟨_, _, Ha⟩
      · exact .inl (Hn b hb)
    · by_cases hb : b = a
      · subst hb
        rw [Ha] at z
        cases z
        exact ⟨ha, by rw [List.length_map]; exact hl, vs, _, rv, ha⟩
      · rw [Hn b hb] at z
        cases z
    · by_cases hb : b = a
      · subst hb
        rw [ha] at e
        cases e
        exact ⟨rfl, _, _, rfl⟩
      · exact absurd (Hn b hb) z
    · refine Hn b fun z => ?_
      subst z
      rw [hk] at e
      cases e
end
/-- as walk_ofK of the layer, for an FnG -/
theorem walk_G {l : PySem.W.OpenLaw} {n k : Nat} {q : Program} {loose : List Str} {XP : (Str → Option Value) → Heap → Prop} {YP : World → Heap → Prop} {d : DefRec} {K : Params → PySem.W.Frag} {sp : PySem.W.Frag → Sp} {x : Str}
    (hn : l.most = some n) (hn2 : n ≤ sizeLine) (hdf : d.params.defaults = []) (hr : Room k callerA) (hY : ∀ (w : World) (h : Heap), YP w h → (K w.params).In h)
    (FF : ∀ (w : World) (mg : Str → Option Value) (fa : Addr) (h : Heap), (K w.params).In h → h.Ns mainGlobals mg → mg d.name = some (.ref fa) →
      ∃ fd : FuncData, (∀ (s : Shared) (u : Value), BindsTo s fd ⟨[u], []⟩ [(x, u)]) ∧ ∀ base : Heap, (K w.params).In base → base.Ns mainGlobals mg → FnG l.prog w (K w.params) mg base CX0 k fa fd [x] (sp (K w.params)))
    (hsp : ∀ (K : PySem.W.Frag) (H : Hp) (a : Addr) (ns : List Int), ns.length ≤ n → Only H → SqL K H a (ns.map V.int) → sp K [.ref a] H (fun v _ => v = .bl true) fun _ _ _ => False) :
    PySem.W.WalkO q loose XP YP l.row.toRowW d [] (fun f vs => PySem.call f vs) := by
  refine Att.attach_call hn hdf fun w s₀ s₁ mg mb fa o pm cd doc a vs ns G Y ho hd hcd hmg hobj hints hlen hg => ?_
  obtain ⟨fd, hb, hF⟩ := FF w mg fa _ (hY w _ Y) G.T.g hmg
  exact law_callG (hY w _ Y) G.T.g G.T.b G.T.builtins G.T.nolimit hg hobj hints (Nat.le_trans hlen hn2) hr hF hb (fun H hO hS => hsp _ H a ns hlen hO hS)
end HX

set_option Elab.async false
set_option linter.all false
set_option maxRecDepth 100000
namespace HX
open PySem PySem.Spec PyProof.Rows L2
open Evl (Ex)

/-! ### a def of the module, called by its name -/
def Has (P : Program) (w : World) (K : PySem.W.Frag) (mg : Str → Option Value) (base : Heap) (k : Nat) (x : Str) (sp : Sp) : Prop :=
  ∃ (f : Addr) (fd : FuncData) (ps : List Str), FnOk P w K mg base CX0 k f fd ps sp ∧ mg x = some (.ref f) ∧ PySem.W.keepIn K (.ref f) = true ∧ Binds K fd ps []
def HasG (P : Program) (w : World) (K : PySem.W.Frag) (mg : Str → Option Value) (base : Heap) (k : Nat) (x : Str) (sp : Sp) : Prop :=
  ∃ (f : Addr) (fd : FuncData) (ps : List Str), FnG P w K mg base CX0 k f fd ps sp ∧ mg x = some (.ref f) ∧ PySem.W.keepIn K (.ref f) = true ∧ Binds K fd ps []
section
variable {X : Cx} {k n : Nat} {sp : Sp} {x : Str} {p pos : Pos} {e : Expr} {es : List Expr} {t : TA}
theorem pe_hs (h : Has X.prog X.w X.K X.mg X.base k x sp) (hr : Room n X.A) (hg : Gl X x) (ha : PA X (e :: es) t) (hkn : k ≤ n := by decide) (hdb : (x == ("__debug__" : Str)) = false := by decide)
    (he : starEach (e :: es) X.env = (false, eval e X.env) :: starEach es X.env := by rfl) (hpl : (backTo pos (starEach es X.env)).any (·.1) = false := by rfl) :
    PE X (.Call (.Name x p) (e :: es) [] pos) (tCall sp [] E0 t) := by
  obtain ⟨f, fd, ps, F, hm, hk, hb⟩ := h
  exact pe_call F (hr.mono hkn) hg hm hk hb .nil pass0 ha hdb he hpl
theorem pe_hsG (h : HasG X.prog X.w X.K X.mg X.base k x sp) (hgd : X.A.guards = some []) (hr : Room n X.A) (hg : Gl X x) (ha : PA X (e :: es) t) (hkn : k ≤ n := by decide) (hdb : (x == ("__debug__" : Str)) = false := by decide)
    (he : starEach (e :: es) X.env = (false, eval e X.env) :: starEach es X.env := by rfl) (hpl : (backTo pos (starEach es X.env)).any (·.1) = false := by rfl) :
    PE X (.Call (.Name x p) (e :: es) [] pos) (tCall sp [] E0 t) := by
  obtain ⟨f, fd, ps, F, hm, hk, hb⟩ := h
  exact pe_callG F hgd (hr.mono hkn) hg hm hk hb .nil pass0 ha hdb he hpl
end

/-! ### objects that turn (a jar, a list that grows), all else stands -/
def hid (S : List Addr) (H : Hp) : Hp := fun b => if b ∈ S then none else H b
theorem hid_ne {S : List Addr} {b : Addr} {H : Hp} (h : b ∉ S) : hid S H b = H b := if_neg h
theorem hid_upd {S : List Addr} {j : Addr} {H : Hp} {o : HO} (hj : j ∈ S) : hid S (upd H j o) = hid S H := by
  funext b
  unfold hid
  by_cases h : b ∈ S
  · rw [if_pos h, if_pos h]
  · rw [if_neg h, if_neg h, upd_ne (fun z => h (by rw [z]; exact hj))]
theorem hid_some {S : List Addr} {H : Hp} {b : Addr} {o : HO} (e : hid S H b = some o) : b ∉ S ∧ H b = some o := by
  unfold hid at e
  by_cases h : b ∈ S
  · rw [if_pos h] at e; cases e
  · rw [if_neg h] at e; exact ⟨h, e⟩
theorem hid_ex {S : List Addr} {H : Hp} : Ex (hid S H) H := fun b o e => (hid_some e).2
theorem hid_sub {S T : List Addr} {H : Hp} (h : ∀ b, b ∈ T → b ∈ S) : Ex (hid S H) (hid T H) := fun b o e => by
  obtain ⟨h1, h2⟩ := hid_some e
  rw [hid_ne fun z => h1 (h b z)]
  exact h2
theorem hid_free {S : List Addr} {p : Addr} {H : Hp} (h : H p = none) : hid S H p = none := by
  unfold hid
  split
  · rfl
  · exact h
/-- a step that may turn the objects of S and lays new ones -/
abbrev Jx (S : List Addr) (H H' : Hp) : Prop := Ex (hid S H) (hid S H')
theorem Jx.of {S : List Addr} {H H' : Hp} (e : Ex H H') : Jx S H H' := fun b o q => by
  obtain ⟨h1, h2⟩ := hid_some q
  rw [hid_ne h1]
  exact e b o h2
theorem Jx.upd {S : List Addr} {j : Addr} {H : Hp} {o : HO} (hj : j ∈ S) : Jx S H (upd H j o) := by
  show Ex (hid S H) (hid S (L2.upd H j o))
  rw [hid_upd hj]
  exact Ex.refl _
theorem Jx.refl {S : List Addr} (H : Hp) : Jx S H H := Ex.refl _
theorem Jx.tr {S : List Addr} {H H1 H2 : Hp} (a : Jx S H H1) (b : Jx S H1 H2) : Jx S H H2 := Ex.trans a b
theorem Jx.new {S : List Addr} {p : Addr} {H : Hp} {o : HO} (h : H p = none) : Jx S H (L2.upd H p o) := Jx.of (Ex.new h)
/-- hiding more -/
theorem Jx.more {S T : List Addr} {H H' : Hp} (e : Jx S H H') (h : ∀ b, b ∈ S → b ∈ T) : Jx T H H' := fun b o q => by
  obtain ⟨h1, h2⟩ := hid_some q
  have := e b o (by rw [hid_ne fun z => h1 (h b z)]; exact h2)
  rw [hid_ne h1]
  exact (hid_some this).2
/-- what was not there need not be hidden -/
theorem Jx.less {S : List Addr} {l : Addr} {H H' : Hp} (e : Jx (l :: S) H H') (h : H l = none) : Jx S H H' := fun b o q => by
  obtain ⟨h1, h2⟩ := hid_some q
  have hb : b ∉ l :: S := fun z => by
    rcases List.mem_cons.mp z with rfl | z
    · rw [h] at h2; cases h2
    · exact h1 z
  have := e b o (by rw [hid_ne hb]; exact h2)
  rw [hid_ne h1]
  exact (hid_some this).2
theorem Jx.get {S : List Addr} {p : Addr} {H H' : Hp} {o : HO} (e : Jx S H H') (h : H p = some o) (hp : p ∉ S) : H' p = some o :=
  (hid_some (e p o (by rw [hid_ne hp]; exact h))).2
theorem Jx.dq {S : List Addr} {H H' : Hp} {v : V} {d : PyData} (e : Jx S H H') (h : Dq (hid S H) v d) : Dq (hid S H') v d := h.ex e
theorem Jx.dqa {S : List Addr} {H H' : Hp} {v : List V} {d : List PyData} (e : Jx S H H') (h : DqAll (hid S H) v d) : DqAll (hid S H') v d := h.ex e
theorem fresh_ne {H : Hp} {p q : Addr} {o : HO} (h : H q = some o) (hp : H p = none) : p ≠ q := fun z => by rw [z, h] at hp; cases hp
theorem nin1 {p j : Addr} (h : p ≠ j) : p ∉ [j] := by simp [h]
theorem nin2 {p l j : Addr} (h1 : p ≠ l) (h2 : p ≠ j) : p ∉ [l, j] := by simp [h1, h2]

end HX

namespace HX
open PySem PySem.Spec PyProof.Rows L2
open Evl (Ex)
/-! ### pieces of readings, to be applied one by one -/
section
variable {K : PySem.W.Frag} {H : Hp} {Q : VK} {j : Addr} {xs : List V} {i : Int} {v : V} {σ : L2.St}
theorem go_ixL (hj : Rd H j (.lst xs)) (hi : atI xs i = some v) (q : Q v H) : rIxL K (.ref j) (.int i) H Q := ⟨j, xs, i, v, rfl, rfl, .inl hj, hi, q⟩
theorem go_ixT (hj : Rd H j (.tup xs)) (hi : atI xs i = some v) (q : Q v H) : rIxT K (.ref j) (.int i) H Q := ⟨j, xs, i, v, rfl, rfl, .inl hj, hi, q⟩
theorem go_ixL' (hj : SqL K H j xs) (hi : atI xs i = some v) (q : Q v H) : rIxL K (.ref j) (.int i) H Q := ⟨j, xs, i, v, rfl, rfl, hj, hi, q⟩
theorem go_ixT' (hj : SqT K H j xs) (hi : atI xs i = some v) (q : Q v H) : rIxT K (.ref j) (.int i) H Q := ⟨j, xs, i, v, rfl, rfl, hj, hi, q⟩
theorem go_setL {n : Nat} {q : Hp → Prop} (hj : H j = some (.lst xs)) (hi : ixN xs.length i = some n) (k : q (upd H j (.lst (xs.set n v)))) : rSetL (.ref j) (.int i) v H q := ⟨j, xs, i, n, rfl, rfl, hj, hi, k⟩
/-- a value is handed on, told by what holds of it -/
theorem cut_e {te : TE} (R : V → Hp → Prop) (h : ∀ Q' : VK, (∀ v H', R v H' → Q' v H') → te σ H Q') (k : ∀ v H', R v H' → Q v H') : te σ H Q := h Q k
/-- a statement, then the rest -/
theorem cut_s {t u : TS} {D : Ends} (M : L2.St → Hp → Prop) (h : ∀ D' : Ends, D'.rt = D.rt → D'.bk = D.bk → D'.ct = D.ct → (∀ σ' H', M σ' H' → D'.nx σ' H') → t D' σ H) (k : ∀ σ' H', M σ' H' → u D σ' H') : tSeq t u D σ H :=
  h { D with nx := u D } rfl rfl rfl k
end
end HX

set_option Elab.async false
set_option linter.all false
set_option maxRecDepth 100000
namespace HX
open PySem PySem.Spec PyProof.Rows L2
open Evl (Ex)
/-! ### the connectives of readings, opened one by one -/
section
variable {K : PySem.W.Frag} {H : Hp} {Q : VK} {QA : List V → Hp → Prop} {QT : Bool → Hp → Prop} {QS : L2.St → Hp → Prop} {v x y : V} {σ : L2.St} {ta tb te tc : TE} {t u : TT} {tr : TA} {D : Ends} {t1 t2 : TS} {g : TG} {i j : Nat} {r r' : R2} {a b : Int} {c : Bool}
theorem go_var (h : σ[i]? = some (some v)) (q : Q v H) : tVar i σ H Q := ⟨v, h, q⟩
theorem go_c (q : Q v H) : tC v σ H Q := q
theorem go_op (h : ta σ H fun x H1 => tb σ H1 fun y H2 => r x y H2 Q) : tOp r ta tb σ H Q := h
theorem go_un {r : V → Hp → VK → Prop} (h : ta σ H fun x H1 => r x H1 Q) : tUn r ta σ H Q := h
theorem go_if (h : t σ H fun c H1 => if c = true then ta σ H1 Q else tb σ H1 Q) : tIf t ta tb σ H Q := h
theorem go_test (h : te σ H fun x H' => ∃ k, x = .bl k ∧ QT k H') : tTest te σ H QT := h
theorem go_B (h : te σ H fun x H1 => ∃ c, x = .bl c ∧ QT c H1) : tB te σ H QT := h
theorem go_bl (q : QT c H) : ∃ k, V.bl c = V.bl k ∧ QT k H := ⟨c, rfl, q⟩
theorem go_not (h : t σ H fun c H1 => QT (!c) H1) : tNot t σ H QT := h
theorem go_and (h : t σ H fun c H1 => if c = true then u σ H1 QT else QT false H1) : tAnd t u σ H QT := h
theorem go_or (h : t σ H fun c H1 => if c = true then QT true H1 else u σ H1 QT) : tOr t u σ H QT := h
theorem go_andV (h : ta σ H fun x H1 => ∃ c, x = .bl c ∧ if c = true then tb σ H1 Q else Q (.bl false) H1) : tAndV ta tb σ H Q := h
theorem go_orV (h : ta σ H fun x H1 => ∃ c, x = .bl c ∧ if c = true then Q (.bl true) H1 else tb σ H1 Q) : tOrV ta tb σ H Q := h
theorem go_notV (h : ta σ H fun x H1 => ∃ c, x = .bl c ∧ Q (.bl (!c)) H1) : tNotV ta σ H Q := h
theorem go_chain (h : ta σ H fun x H1 => tb σ H1 fun y H2 => r x y H2 fun z H3 => ∃ k, z = .bl k ∧ (if k = true then tc σ H3 fun w' H4 => r' y w' H4 Q else Q (.bl false) H3)) : tChain r r' ta tb tc σ H Q := h
theorem go_nil (q : QA [] H) : tNil σ H QA := q
theorem go_cons (h : ta σ H fun x H1 => tr σ H1 fun xs H2 => QA (x :: xs) H2) : tCons ta tr σ H QA := h
theorem go_cb {rc : List V → Hp → VK → Prop} (h : tr σ H fun vs H1 => rc vs H1 Q) : tCB rc tr σ H Q := h
theorem go_call {sp : Sp} {dvs : List V} {E : XK} (h : tr σ H fun vs H1 => sp (vs ++ dvs) H1 Q E) : tCall sp dvs E tr σ H Q := h
theorem go_tup (h : tr σ H fun xs H1 => xs.length ≤ sizeLine ∧ ∀ p, H1 p = none → Q (.ref p) (upd H1 p (.tup xs))) : tTup tr σ H Q := h
theorem go_lst (h : tr σ H fun xs H1 => xs.length ≤ sizeLine ∧ ∀ p, H1 p = none → Q (.ref p) (upd H1 p (.lst xs))) : tLst tr σ H Q := h
theorem go_asg (h : te σ H fun x H1 => g x σ H1 D.nx) : tAsg te g D σ H := h
theorem go_name (h : QS (σ.set i (some v)) H) : gName i v σ H QS := h
theorem go_sub {to ti : TE} {ts : TSet} (h : to σ H fun o H1 => ti σ H1 fun i H2 => ts o i v H2 fun H3 => QS σ H3) : gSub to ti ts v σ H QS := h
theorem go_seq (h : t1 { D with nx := t2 D } σ H) : tSeq t1 t2 D σ H := h
theorem go_ret (h : te σ H D.rt) : tRet te D σ H := h
theorem go_retN (h : D.rt .non H) : tRetN D σ H := h
theorem go_drop (h : te σ H fun _ H1 => D.nx σ H1) : tDrop te D σ H := h
theorem go_next (h : D.nx σ H) : tNext D σ H := h
theorem go_brk (h : D.bk σ H) : tBreak D σ H := h
theorem go_cont (h : D.ct σ H) : tCont D σ H := h
theorem go_ifS (h : t σ H fun b H1 => if b = true then t1 D σ H1 else t2 D σ H1) : tIfS t t1 t2 D σ H := h
theorem go_par (h : tr σ H fun vs H1 => ∃ v w, vs = [v, w] ∧ D.nx ((σ.set i (some v)).set j (some w)) H1) : tPar i j tr D σ H := h
theorem go_par2 {P : V → V → Prop} (h : P x y) : ∃ v w, [x, y] = [v, w] ∧ P v w := ⟨x, y, rfl, h⟩
theorem go_bm {T : String} {rb : V → List V → Hp → VK → Prop} (h : ta σ H fun x H1 => tyV K T x H1 ∧ tr σ H1 fun xs H2 => rb x xs H2 Q) : tBM K T rb ta tr σ H Q := h
theorem go_I0 {f : Int → Int → V} (q : Q (f a b) H) : rI0 f (.int a) (.int b) H Q := ⟨a, b, rfl, rfl, q⟩
theorem go_I {C : Int → Int → Prop} {f : Int → Int → V} (hc : C a b) (q : Q (f a b) H) : rI C f (.int a) (.int b) H Q := ⟨a, b, rfl, rfl, hc, q⟩
theorem go_U {f : Int → V} (q : Q (f a) H) : rU f (.int a) H Q := ⟨a, rfl, q⟩
theorem go_eq (h : scal x y = true) (q : Q (.bl (decide (x = y))) H) : rEq x y H Q := ⟨h, q⟩
theorem go_ne (h : scal x y = true) (q : Q (.bl (!decide (x = y))) H) : rNe x y H Q := ⟨h, q⟩
theorem go_isN (q : Q (.bl (decide (x = .non))) H) : rIsN x .non H Q := ⟨rfl, q⟩
theorem go_notN (q : Q (.bl (!decide (x = .non))) H) : rNotN x .non H Q := ⟨rfl, q⟩
theorem go_app {l : Addr} {xs : List V} (h : H l = some (.lst xs)) (hz : xs.length < sizeLine) (q : Q .non (upd H l (.lst (xs ++ [y])))) : rAppend (.ref l) [y] H Q := ⟨l, xs, y, rfl, rfl, h, hz, q⟩
theorem go_tyL {l : Addr} {xs : List V} (h : H l = some (.lst xs)) {P : Prop} (q : P) : tyV K "list" (.ref l) H ∧ P := ⟨.inl ⟨rfl, _, SqL.of h⟩, q⟩
theorem go_cat {l m : Addr} {xs zs : List V} (h1 : H l = some (.lst xs)) (h2 : H m = some (.lst zs)) (hz : xs.length + zs.length ≤ sizeLine) (q : ∀ p, H p = none → Q (.ref p) (upd H p (.lst (xs ++ zs)))) : rCat (.ref l) (.ref m) H Q :=
  ⟨l, m, xs, zs, rfl, rfl, h1, h2, hz, q⟩
theorem go_rep {l : Addr} {xs : List V} {k : Int} (h1 : H l = some (.lst xs)) (h2 : -(2 ^ 63) ≤ k ∧ k < 2 ^ 63) (hz : xs.length * k.toNat ≤ sizeLine) (q : ∀ p, H p = none → Q (.ref p) (upd H p (.lst (List.replicate k.toNat xs).flatten))) : rRep (.ref l) (.int k) H Q :=
  ⟨l, k, xs, rfl, rfl, h1, h2.1, h2.2, hz, q⟩
end
/-! ### built-ins by name -/
def rLenQ (K : PySem.W.Frag) : List V → Hp → VK → Prop := fun xs H Q => ∃ p ys, xs = [.ref p] ∧ (SqL K H p ys ∨ SqT K H p ys) ∧ Q (.int ys.length) H
def rAbsQ : List V → Hp → VK → Prop := fun xs H Q => ∃ i, xs = [.int i] ∧ Q (.int (if i < 0 then -i else i)) H
def rMaxQ : List V → Hp → VK → Prop := fun xs H Q => ∃ i j, xs = [.int i, .int j] ∧ Q (.int (if j > i then j else i)) H
def rMinQ : List V → Hp → VK → Prop := fun xs H Q => ∃ i j, xs = [.int i, .int j] ∧ Q (.int (if j < i then j else i)) H
def rIntQ : List V → Hp → VK → Prop := fun xs H Q => (∃ i, xs = [.int i] ∧ Q (.int i) H) ∨ ∃ k, xs = [.bl k] ∧ Q (.int (if k then 1 else 0)) H
section
variable {X : Cx}
theorem call_lenQ : CallR X (.builtin "len") (rLenQ X.K) := call_len_seq
theorem call_absQ : CallR X (.builtin "abs") rAbsQ := call_abs
theorem call_maxQ (hc : X.calm = true) : CallR X (.builtin "max") rMaxQ := call_max2 hc
theorem call_minQ (hc : X.calm = true) : CallR X (.builtin "min") rMinQ := call_min2 hc
theorem call_intQ : CallR X (.type "int") rIntQ := call_int1
end
section
variable {K : PySem.W.Frag} {H : Hp} {Q : VK} {p : Addr} {ys : List V} {i j : Int} {b : Bool}
theorem go_lenL (h : Rd H p (.lst ys)) (k : Q (.int ys.length) H) : rLenQ K [.ref p] H Q := ⟨p, ys, rfl, .inl (.inl h), k⟩
theorem go_lenT (h : Rd H p (.tup ys)) (k : Q (.int ys.length) H) : rLenQ K [.ref p] H Q := ⟨p, ys, rfl, .inr (.inl h), k⟩
theorem go_lenS (h : SqL K H p ys) (k : Q (.int ys.length) H) : rLenQ K [.ref p] H Q := ⟨p, ys, rfl, .inl h, k⟩
theorem go_abs (k : Q (.int (if i < 0 then -i else i)) H) : rAbsQ [.int i] H Q := ⟨i, rfl, k⟩
theorem go_max (k : Q (.int (if j > i then j else i)) H) : rMaxQ [.int i, .int j] H Q := ⟨i, j, rfl, k⟩
theorem go_min (k : Q (.int (if j < i then j else i)) H) : rMinQ [.int i, .int j] H Q := ⟨i, j, rfl, k⟩
theorem go_int (k : Q (.int i) H) : rIntQ [.int i] H Q := .inl ⟨i, rfl, k⟩
theorem go_intB (k : Q (.int (if b then 1 else 0)) H) : rIntQ [.bl b] H Q := .inr ⟨b, rfl, k⟩
end
/-- a slot is read -/
theorem wide1 {b : Int} (h0 : 0 < b) (h : b < 2 ^ 400) {a : Int} : CDivW a b := wide_div (b := 400) h0 (by omega) (by decide) (by decide)
end HX
namespace HX
open PySem L2
theorem go_new {n : Nat} {R : Prop} (h : n ≤ sizeLine) (k : R) : n ≤ sizeLine ∧ R := ⟨h, k⟩
end HX
namespace HX
open PySem PySem.Spec PyProof.Rows L2
open Evl (Ex)
/-! ### loops -/
section
variable {K : PySem.W.Frag} {H : Hp} {Q : VK} {σ : L2.St} {ta : TA} {tl te : TE} {tt : TT} {D : Ends} {tb : TS} {g : TG} {lo : Int} {n : Nat} {a : Addr} {xs : List V} {vs : List Nat}
def forR (lo : Int) (n : Nat) (g : TG) (tb : TS) : TS := tFor (fun _ H R => R (Itr lo n) H) g tb
def forL (K : PySem.W.Frag) (a : Addr) (g : TG) (tb : TS) : TS := tFor (fun _ H R => R (Itl K a) H) g tb
def forT (K : PySem.W.Frag) (a : Addr) (g : TG) (tb : TS) : TS := tFor (fun _ H R => R (Itt K a) H) g tb
def forE (K : PySem.W.Frag) (a : Addr) (g : TG) (tb : TS) : TS := tFor (fun _ H R => R (Ite K a) H) g tb
theorem go_forR1 (h : ta σ H fun vs H1 => ∃ j : Int, vs = [.int j] ∧ -(2 ^ 62) ≤ j ∧ j < 2 ^ 62 ∧ forR 0 j.toNat g tb D σ H1) : tFor (iRng1 ta) g tb D σ H := h
theorem go_forR2 (h : ta σ H fun vs H1 => ∃ i j : Int, vs = [.int i, .int j] ∧ (-(2 ^ 62) ≤ i ∧ i < 2 ^ 62 ∧ -(2 ^ 62) ≤ j ∧ j < 2 ^ 62) ∧ forR i (j - i).toNat g tb D σ H1) : tFor (iRng2 ta) g tb D σ H := h
theorem go_forL (h : tl σ H fun x H1 => ∃ a, x = .ref a ∧ (∃ xs, SqL K H1 a xs) ∧ forL K a g tb D σ H1) : tFor (iList K tl) g tb D σ H := h
theorem go_forT (h : tl σ H fun x H1 => ∃ a, x = .ref a ∧ (∃ xs, SqT K H1 a xs) ∧ forT K a g tb D σ H1) : tFor (iTup K tl) g tb D σ H := h
theorem go_forE (h : ta σ H fun vs H1 => ∃ a xs, vs = [.ref a] ∧ SqL K H1 a xs ∧ forE K a g tb D σ H1) : tFor (iEnum K ta) g tb D σ H := h
theorem run_forR (Pv : Nat → L2.St → Hp → Prop) (h0 : Pv 0 σ H)
    (hs : ∀ i σ H, i < n → Pv i σ H → g (.int (lo + i)) σ H fun σ2 H2 => tb { D with nx := Pv (i + 1), ct := Pv (i + 1), bk := D.nx } σ2 H2) (hd : ∀ σ H, Pv n σ H → D.nx σ H) : forR lo n g tb D σ H := for_range Pv h0 hs hd
theorem run_forL (xs : List V) (Pv : Nat → L2.St → Hp → Prop) (h0 : Pv 0 σ H) (hl : ∀ i σ H, i ≤ xs.length → Pv i σ H → SqL K H a xs)
    (hs : ∀ i x σ H, xs[i]? = some x → Pv i σ H → g x σ H fun σ2 H2 => tb { D with nx := Pv (i + 1), ct := Pv (i + 1), bk := D.nx } σ2 H2) (hd : ∀ σ H, Pv xs.length σ H → D.nx σ H) : forL K a g tb D σ H := for_list Pv h0 hl hs hd
theorem run_forT (xs : List V) (Pv : Nat → L2.St → Hp → Prop) (h0 : Pv 0 σ H) (hl : ∀ i σ H, i ≤ xs.length → Pv i σ H → SqT K H a xs)
    (hs : ∀ i x σ H, xs[i]? = some x → Pv i σ H → g x σ H fun σ2 H2 => tb { D with nx := Pv (i + 1), ct := Pv (i + 1), bk := D.nx } σ2 H2) (hd : ∀ σ H, Pv xs.length σ H → D.nx σ H) : forT K a g tb D σ H := for_tup Pv h0 hl hs hd
/-- comprehensions -/
def lcR (lo : Int) (n : Nat) (g : TG) (tt : TT) (te : TE) (vs : List Nat) : TE := tLc (fun _ H R => R (Itr lo n) H) g tt te vs
def lcL (K : PySem.W.Frag) (a : Addr) (g : TG) (tt : TT) (te : TE) (vs : List Nat) : TE := tLc (fun _ H R => R (Itl K a) H) g tt te vs
def lcT (K : PySem.W.Frag) (a : Addr) (g : TG) (tt : TT) (te : TE) (vs : List Nat) : TE := tLc (fun _ H R => R (Itt K a) H) g tt te vs
theorem go_lcR1 (h : ta σ H fun us H1 => ∃ j : Int, us = [.int j] ∧ -(2 ^ 62) ≤ j ∧ j < 2 ^ 62 ∧ lcR 0 j.toNat g tt te vs σ H1 Q) : tLc (iRng1 ta) g tt te vs σ H Q := h
theorem go_lcL (h : tl σ H fun x H1 => ∃ a, x = .ref a ∧ (∃ xs, SqL K H1 a xs) ∧ lcL K a g tt te vs σ H1 Q) : tLc (iList K tl) g tt te vs σ H Q := h
theorem go_lcT (h : tl σ H fun x H1 => ∃ a, x = .ref a ∧ (∃ xs, SqT K H1 a xs) ∧ lcT K a g tt te vs σ H1 Q) : tLc (iTup K tl) g tt te vs σ H Q := h
/-- acc at D so far: Pv i acc H; what a turn appends -/
theorem run_lcR (Pv : Addr → Nat → Hp → Prop) (h0 : ∀ D, H D = none → Pv D 0 (upd H D (.lst [])))
    (hs : ∀ D i H, i < n → Pv D i H → g (.int (lo + i)) (wipe σ vs) H fun σ2 H2 => wipe σ2 vs = wipe σ vs ∧ tt σ2 H2 fun b H3 =>
      if b = true then te σ2 H3 fun y H4 => ∃ acc, H4 D = some (.lst acc) ∧ acc.length < sizeLine ∧ Pv D (i + 1) (upd H4 D (.lst (acc ++ [y]))) else Pv D (i + 1) H3) (hd : ∀ D H', H D = none → Pv D n H' → Q (.ref D) H') : lcR lo n g tt te vs σ H Q :=
  fun D hD => lc_range (Pv D) (h0 D hD) (hs D) fun H' p => hd D H' hD p
theorem run_lcL (xs : List V) (Pv : Addr → Nat → Hp → Prop) (h0 : ∀ D, H D = none → Pv D 0 (upd H D (.lst []))) (hl : ∀ D i H, i ≤ xs.length → Pv D i H → SqL K H a xs)
    (hs : ∀ D i x H, xs[i]? = some x → Pv D i H → g x (wipe σ vs) H fun σ2 H2 => wipe σ2 vs = wipe σ vs ∧ tt σ2 H2 fun b H3 =>
      if b = true then te σ2 H3 fun y H4 => ∃ acc, H4 D = some (.lst acc) ∧ acc.length < sizeLine ∧ Pv D (i + 1) (upd H4 D (.lst (acc ++ [y]))) else Pv D (i + 1) H3) (hd : ∀ D H', H D = none → Pv D xs.length H' → Q (.ref D) H') : lcL K a g tt te vs σ H Q :=
  fun D hD => lc_list (Pv D) (h0 D hD) (hl D) (hs D) fun H' p => hd D H' hD p
theorem run_lcT (xs : List V) (Pv : Addr → Nat → Hp → Prop) (h0 : ∀ D, H D = none → Pv D 0 (upd H D (.lst []))) (hl : ∀ D i H, i ≤ xs.length → Pv D i H → SqT K H a xs)
    (hs : ∀ D i x H, xs[i]? = some x → Pv D i H → g x (wipe σ vs) H fun σ2 H2 => wipe σ2 vs = wipe σ vs ∧ tt σ2 H2 fun b H3 =>
      if b = true then te σ2 H3 fun y H4 => ∃ acc, H4 D = some (.lst acc) ∧ acc.length < sizeLine ∧ Pv D (i + 1) (upd H4 D (.lst (acc ++ [y]))) else Pv D (i + 1) H3) (hd : ∀ D H', H D = none → Pv D xs.length H' → Q (.ref D) H') : lcT K a g tt te vs σ H Q :=
  fun D hD => lc_tup (Pv D) (h0 D hD) (hl D) (hs D) fun H' p => hd D H' hD p
end
end HX
namespace HX
open PySem PySem.Spec PyProof.Rows L2
theorem cut_t {tt : TT} {σ : L2.St} {H : Hp} {Q : Bool → Hp → Prop} (R : Bool → Hp → Prop) (h : ∀ Q' : Bool → Hp → Prop, (∀ b H', R b H' → Q' b H') → tt σ H Q') (k : ∀ b H', R b H' → Q b H') : tt σ H Q := h Q k
theorem go_neD {K : PySem.W.Frag} {H : Hp} {Q : VK} {x y : V} {d e : PyData} (h1 : Dq H x d) (h2 : Dq H y e) (s1 : SeqAt.shaped d = true) (s2 : SeqAt.shaped e = true) (q : Q (.bl (!PyData.eqv d e)) H) : rNeD K x y H Q :=
  ⟨d, e, h1.dp (PyData.hasDict_of_canLay d (SeqAt.canLay_of_shaped s1)), h2.dp (PyData.hasDict_of_canLay e (SeqAt.canLay_of_shaped s2)), s1, s2, q⟩
theorem go_eqD {K : PySem.W.Frag} {H : Hp} {Q : VK} {x y : V} {d e : PyData} (h1 : Dq H x d) (h2 : Dq H y e) (s1 : SeqAt.shaped d = true) (s2 : SeqAt.shaped e = true) (q : Q (.bl (PyData.eqv d e)) H) : rEqD K x y H Q :=
  ⟨d, e, h1.dp (PyData.hasDict_of_canLay d (SeqAt.canLay_of_shaped s1)), h2.dp (PyData.hasDict_of_canLay e (SeqAt.canLay_of_shaped s2)), s1, s2, q⟩
end HX
namespace HX
open PySem PySem.Spec PyProof.Rows L2
section
variable {K : PySem.W.Frag} {H : Hp} {Q : VK} {σ : L2.St} {te : TE} {tl th : TO} {QO : Option Int → Hp → Prop} {a : Addr} {xs : List V} {i : Int} {lo hi : Option Int}
theorem go_sl {r : V → Option Int → Option Int → Hp → VK → Prop} (h : te σ H fun x H1 => tl σ H1 fun l H2 => th σ H2 fun u H3 => r x l u H3 Q) : tSl r te tl th σ H Q := h
theorem go_part (h : te σ H fun x H1 => ∃ i, x = .int i ∧ QO (some i) H1) : tPart te σ H QO := h
theorem go_pint {Q : Int → Prop} (h : Q i) : ∃ j, V.int i = V.int j ∧ Q j := ⟨i, rfl, h⟩
theorem go_nopart (h : QO none H) : tNoPart σ H QO := h
theorem go_slT (h : Rd H a (.tup xs)) (hn : ¬ (HT.sIx xs.length 0 lo = 0 ∧ HT.sIx xs.length xs.length hi = xs.length)) (k : ∀ p, H p = none → Q (.ref p) (upd H p (.tup (cutV xs lo hi)))) : rSlT K (.ref a) lo hi H Q := ⟨a, xs, rfl, .inl h, hn, k⟩
theorem go_slL (h : Rd H a (.lst xs)) (k : ∀ p, H p = none → Q (.ref p) (upd H p (.lst (cutV xs lo hi)))) : rSlL K (.ref a) lo hi H Q := ⟨a, xs, rfl, .inl h, k⟩
theorem cut_tail (x : V) (l : List V) : cutV (x :: l) (some 1) none = l ∧ ¬ (HT.sIx (x :: l).length 0 (some 1) = 0 ∧ HT.sIx (x :: l).length (x :: l).length none = (x :: l).length) := by
  have e1 : HT.sIx (x :: l).length 0 (some 1) = 1 := by
    simp [HT.sIx]
  have e2 : HT.sIx (x :: l).length (x :: l).length none = l.length + 1 := by
    simp [HT.sIx]
  refine ⟨?_, by rw [e1]; simp⟩
  unfold cutV
  rw [e1, e2]
  simp
end
end HX
namespace HX
open PySem PySem.Spec PyProof.Rows L2
theorem run_forE {K : PySem.W.Frag} {a : Addr} {g : TG} {tb : TS} {D : Ends} {σ : L2.St} {H : Hp} (xs : List V) (Pv : Nat → L2.St → Hp → Prop) (h0 : Pv 0 σ H) (hl : ∀ i σ H, i ≤ xs.length → Pv i σ H → SqL K H a xs)
    (hs : ∀ i x σ H T, xs[i]? = some x → Pv i σ H → H T = none → g (.ref T) σ (upd H T (.tup [.int (i : Nat), x])) fun σ2 H2 => tb { D with nx := Pv (i + 1), ct := Pv (i + 1), bk := D.nx } σ2 H2)
    (hd : ∀ σ H, Pv xs.length σ H → D.nx σ H) : forE K a g tb D σ H := by
  refine ⟨fun i m σ H => m = xs.length - i ∧ i ≤ xs.length ∧ Pv i σ H, ⟨xs.length, by simp, Nat.zero_le _, h0⟩, ?_⟩
  rintro i m σ H ⟨rfl, hi, p⟩
  have q := hl i σ H hi p
  rcases Nat.lt_or_ge i xs.length with hlt | hge
  · refine .inr ⟨⟨xs, xs[i], q, by simp [hlt]⟩, Pv (i + 1), fun σ' H' p' => ⟨xs.length - (i + 1), by omega, rfl, hlt, p'⟩, ?_⟩
    rintro v H' ⟨T, x, rfl, hT, rfl, y⟩
    exact hs i x σ H T (y xs q) p hT
  · obtain rfl : i = xs.length := by omega
    exact .inl ⟨⟨xs, q, Nat.le_refl _⟩, hd σ H p⟩
end HX

set_option Elab.async false
set_option linter.all false
set_option maxRecDepth 100000
namespace HX
open PySem PySem.Spec PyProof.Rows L2
open Evl (Ex)
/-! ### isinstance of data -/
def tyNm : PyData → String
  | .none => "NoneType"
  | .bool _ => "bool"
  | .int _ => "int"
  | .str _ => "str"
  | .list _ => "list"
  | .tuple _ => "tuple"
  | .dict _ => "dict"
theorem Dq.ty {K : PySem.W.Frag} {H : Hp} {x : V} {d : PyData} (h : Dq H x d) : TyX K H x (.type (tyNm d)) := by
  cases h with
  | non => exact .base .non
  | bl b => exact .base (.bl b)
  | int i => exact .base (.int i)
  | str y => exact .base (.str y)
  | lst h k => rcases h with h | ⟨o, h⟩
               · exact .base (.lst h)
               · exact .base (.frz h)
  | tup h k => rcases h with h | ⟨o, h⟩
               · exact .base (.tup h)
               · exact .fTuple h
  | dic h => exact .base (.dK h)
  | dic1 h => exact .base (.dK h)
theorem go_isi {K : PySem.W.Frag} {H : Hp} {x : V} {d : PyData} {T : String} {b : Bool} {Q : VK} (h : Dq H x d) (e : kitB (tyNm d) T = some b) (q : Q (.bl b) H) : rIsi K [x, .ty T] H Q :=
  ⟨x, .ty T, _, _, b, rfl, .ty T, h.ty, kit_ty e, q⟩
def pInt : PyData → Bool
  | .int _ => true
  | .bool _ => true
  | _ => false
theorem kit_int (d : PyData) : kitB (tyNm d) "int" = some (pInt d) := by
  cases d with
  | none => exact (by decide +kernel : kitB "NoneType" "int" = some false)
  | bool _ => exact (by decide +kernel : kitB "bool" "int" = some true)
  | int _ => exact (by decide +kernel : kitB "int" "int" = some true)
  | str _ => exact (by decide +kernel : kitB "str" "int" = some false)
  | list _ => exact (by decide +kernel : kitB "list" "int" = some false)
  | tuple _ => exact (by decide +kernel : kitB "tuple" "int" = some false)
  | dict _ => exact (by decide +kernel : kitB "dict" "int" = some false)
def pBool : PyData → Bool
  | .bool _ => true
  | _ => false
theorem kit_bool (d : PyData) : kitB (tyNm d) "bool" = some (pBool d) := by
  cases d with
  | none => exact (by decide +kernel : kitB "NoneType" "bool" = some false)
  | bool _ => exact (by decide +kernel : kitB "bool" "bool" = some true)
  | int _ => exact (by decide +kernel : kitB "int" "bool" = some false)
  | str _ => exact (by decide +kernel : kitB "str" "bool" = some false)
  | list _ => exact (by decide +kernel : kitB "list" "bool" = some false)
  | tuple _ => exact (by decide +kernel : kitB "tuple" "bool" = some false)
  | dict _ => exact (by decide +kernel : kitB "dict" "bool" = some false)
def pStr : PyData → Bool
  | .str _ => true
  | _ => false
theorem kit_str (d : PyData) : kitB (tyNm d) "str" = some (pStr d) := by
  cases d with
  | none => exact (by decide +kernel : kitB "NoneType" "str" = some false)
  | bool _ => exact (by decide +kernel : kitB "bool" "str" = some false)
  | int _ => exact (by decide +kernel : kitB "int" "str" = some false)
  | str _ => exact (by decide +kernel : kitB "str" "str" = some true)
  | list _ => exact (by decide +kernel : kitB "list" "str" = some false)
  | tuple _ => exact (by decide +kernel : kitB "tuple" "str" = some false)
  | dict _ => exact (by decide +kernel : kitB "dict" "str" = some false)
def pList : PyData → Bool
  | .list _ => true
  | _ => false
theorem kit_list (d : PyData) : kitB (tyNm d) "list" = some (pList d) := by
  cases d with
  | none => exact (by decide +kernel : kitB "NoneType" "list" = some false)
  | bool _ => exact (by decide +kernel : kitB "bool" "list" = some false)
  | int _ => exact (by decide +kernel : kitB "int" "list" = some false)
  | str _ => exact (by decide +kernel : kitB "str" "list" = some false)
  | list _ => exact (by decide +kernel : kitB "list" "list" = some true)
  | tuple _ => exact (by decide +kernel : kitB "tuple" "list" = some false)
  | dict _ => exact (by decide +kernel : kitB "dict" "list" = some false)
def pTuple : PyData → Bool
  | .tuple _ => true
  | _ => false
theorem kit_tuple (d : PyData) : kitB (tyNm d) "tuple" = some (pTuple d) := by
  cases d with
  | none => exact (by decide +kernel : kitB "NoneType" "tuple" = some false)
  | bool _ => exact (by decide +kernel : kitB "bool" "tuple" = some false)
  | int _ => exact (by decide +kernel : kitB "int" "tuple" = some false)
  | str _ => exact (by decide +kernel : kitB "str" "tuple" = some false)
  | list _ => exact (by decide +kernel : kitB "list" "tuple" = some false)
  | tuple _ => exact (by decide +kernel : kitB "tuple" "tuple" = some true)
  | dict _ => exact (by decide +kernel : kitB "dict" "tuple" = some false)
theorem tuple_or (d : PyData) : (∃ ds, d = .tuple ds) ∨ pTuple d = false := by
  cases d with
  | tuple ds => exact .inl ⟨_, rfl⟩
  | _ => exact .inr rfl
theorem str_or (d : PyData) : (∃ x, d = .str x) ∨ pStr d = false := by
  cases d with
  | str ds => exact .inl ⟨_, rfl⟩
  | _ => exact .inr rfl
theorem list_or (d : PyData) : (∃ x, d = .list x) ∨ pList d = false := by
  cases d with
  | list ds => exact .inl ⟨_, rfl⟩
  | _ => exact .inr rfl
/-! ### a tuple unpacked -/
section
variable {K : PySem.W.Frag} {H : Hp} {σ : L2.St} {Q : L2.St → Hp → Prop} {a : Addr} {xs : List V} {n : Nat} {t : TGs} {g : TG} {v : V}
theorem go_gtup (h : SqT K H a xs) (hl : xs.length = n) (k : t xs σ H Q) : gTup K n t (.ref a) σ H Q := ⟨a, xs, rfl, h, hl, k⟩
theorem go_gcons (k : g v σ H fun σ' H' => t xs σ' H' Q) : gCons g t (v :: xs) σ H Q := ⟨v, xs, rfl, k⟩
theorem go_gnil (k : Q σ H) : gNil [] σ H Q := ⟨rfl, k⟩
end
theorem Dq.tupleAt {H : Hp} {x : V} {ds : List PyData} (h : Dq H x (.tuple ds)) : ∃ a xs, x = .ref a ∧ Rd H a (.tup xs) ∧ DqAll H xs ds := by
  cases h with
  | tup h1 h2 => exact ⟨_, _, rfl, h1, h2⟩
theorem Dq.listAt {H : Hp} {x : V} {ds : List PyData} (h : Dq H x (.list ds)) : ∃ a xs, x = .ref a ∧ Rd H a (.lst xs) ∧ DqAll H xs ds := by
  cases h with
  | lst h1 h2 => exact ⟨_, _, rfl, h1, h2⟩
/-! ### a def called by keywords alone -/
def HasK (P : Program) (w : World) (K : PySem.W.Frag) (mg : Str → Option Value) (base : Heap) (k : Nat) (x : Str) (ks : List Str) (g : List Value → List Value) (gV : List V → List V) (sp : Sp) : Prop :=
  ∃ (f : Addr) (fd : FuncData) (ps : List Str), FnOk P w K mg base CX0 k f fd ps sp ∧ mg x = some (.ref f) ∧ PySem.W.keepIn K (.ref f) = true ∧ KBn K fd ps 0 ks (fun _ ws => g ws) (fun _ zs => gV zs)
def tKw (n : Nat) (sp : Sp) (gV : List V → List V) (tk : TA) : TE := fun σ H Q => tk σ H fun zs H2 => zs.length = n ∧ sp (gV zs) H2 Q E0
section
variable {X : Cx} {k n : Nat} {sp : Sp} {x : Str} {p pos : Pos} {kws : List Keyword} {tk : TA} {ks : List Str} {g : List Value → List Value} {gV : List V → List V}
theorem pe_kw (h : HasK X.prog X.w X.K X.mg X.base k x ks g gV sp) (hr : Room n X.A) (hg : Gl X x) (hkw : PK X kws tk) (hkn : k ≤ n := by decide)
    (hall : (backToKw pos (keywordEach kws X.env)).all (·.1.isSome) = true := by rfl) (hks : (backToKw pos (keywordEach kws X.env)).filterMap (·.1) = ks := by rfl) (hdb : (x == ("__debug__" : Str)) = false := by decide)
    (hpl : ((backTo pos (starEach [] X.env)).any (·.1) || (backToKw pos (keywordEach kws X.env)).any (·.1.isNone)) = false := by rfl) :
    PE X (.Call (.Name x p) [] kws pos) (tKw ks.length sp gV tk) := by
  obtain ⟨f, fd, ps, F, hm, hk, hb⟩ := h
  refine ⟨fun pins s σ H Q I h => ?_⟩
  refine wpAny_Call_Name_kw (ld_glob I hg hm ?_ hdb)
  refine PySem.W.callWith_KW0 (h₀ := X.base) I.ok.mod.kin hk hall ?_ hpl
  refine thn (hkw.run pos pins s σ H _ I h) fun ws s2 ⟨zs, H2, I2, rz, l2, q2⟩ => ⟨I2.kIn, ?_⟩
  rw [hks]
  exact run_fnN (us := []) (vs := []) (n := 0) F (hr.mono hkn) hb pass0 I2 .nil rz rfl l2 q2
theorem go_kw {σ : L2.St} {H : Hp} {Q : VK} (h : tk σ H fun zs H2 => zs.length = n ∧ sp (gV zs) H2 Q E0) : tKw n sp gV tk σ H Q := h
end
end HX

set_option Elab.async false
set_option linter.all false
set_option maxRecDepth 100000
namespace HX
open PySem PySem.Spec PyProof.Rows L2
open Evl (Ex)
/-! ### data of moderate size -/
structure Fine (w k : Nat) (d : PyData) : Prop where
  sh : d.showable = true
  lv : d.leavesShort 200 = true
  wt : d.weight ≤ w
  dp : d.depth ≤ k
theorem Fine.mono {w w' k k' : Nat} {d : PyData} (h : Fine w k d) (hw : w ≤ w') (hk : k ≤ k') : Fine w' k' d := ⟨h.sh, h.lv, Nat.le_trans h.wt hw, Nat.le_trans h.dp hk⟩
theorem Fine.none : Fine 0 0 .none := ⟨rfl, rfl, Nat.le_refl _, Nat.le_refl _⟩
theorem Fine.bool (b : Bool) : Fine 0 0 (.bool b) := ⟨rfl, rfl, Nat.le_refl _, Nat.le_refl _⟩
theorem Fine.int {i : Int} (h : i.natAbs < 2 ^ 600) : Fine 600 0 (.int i) := by
  have hl : i.natAbs.log2 < 600 := PySem.Flt.log2_lt_of (by decide) h
  have ht : (toString i).length ≤ 200 := Nat.le_trans (int_text_length_le10 (k := 182) (by decide) (Nat.lt_of_lt_of_le h (by decide +kernel))) (by decide)
  refine ⟨by simp [PyData.showable]; omega, ?_, ?_, Nat.le_refl _⟩
  · simp only [PyData.leavesShort, PyData.shown]
    refine decide_eq_true ?_
    show (Str.ofString (toString i)).length ≤ 200
    rw [PySem.ofString_length]
    exact ht
  · simp only [PyData.weight]
    split <;> omega
theorem Fine.str {x : Str} {n : Nat} (h : (PyData.str x).leavesShort 200 = true) (hn : x.cps.size ≤ n) : Fine n 0 (.str x) := ⟨rfl, h, hn, Nat.le_refl _⟩
theorem fine_all {w k : Nat} : ∀ {l : List PyData}, (∀ x ∈ l, Fine w k x) → PyData.showableAll l = true ∧ PyData.leavesShortAll 200 l = true ∧ PyData.weightAll l ≤ l.length * (w + 1) ∧ PyData.depthAll l ≤ k
  | [], _ => ⟨rfl, rfl, by simp [PyData.weightAll], by simp [PyData.depthAll]⟩
  | x :: l, h => by
    obtain ⟨h1, h2, h3, h4⟩ := fine_all fun y hy => h y (List.mem_cons_of_mem _ hy)
    have hx := h x List.mem_cons_self
    refine ⟨by simp [PyData.showableAll, hx.sh, h1], by simp [PyData.leavesShortAll, hx.lv, h2], ?_, ?_⟩
    · simp only [PyData.weightAll, List.length_cons]
      have := hx.wt
      rw [Nat.add_mul]
      omega
    · simp only [PyData.depthAll]
      have := hx.dp
      omega
theorem Fine.list {w k : Nat} {l : List PyData} (h : ∀ x ∈ l, Fine w k x) : Fine (l.length * (w + 1)) (k + 1) (.list l) := by
  obtain ⟨h1, h2, h3, h4⟩ := fine_all h
  exact ⟨by simpa [PyData.showable] using h1, by simpa [PyData.leavesShort] using h2, by simpa [PyData.weight] using h3, by simpa [PyData.depth] using h4⟩
theorem Fine.tuple {w k : Nat} {l : List PyData} (h : ∀ x ∈ l, Fine w k x) : Fine (l.length * (w + 1)) (k + 1) (.tuple l) := by
  obtain ⟨h1, h2, h3, h4⟩ := fine_all h
  exact ⟨by simpa [PyData.showable] using h1, by simpa [PyData.leavesShort] using h2, by simpa [PyData.weight] using h3, by simpa [PyData.depth] using h4⟩
theorem Fine.dict : Fine 0 1 (.dict []) := ⟨rfl, rfl, by simp [PyData.weight, PyData.weightKv], by simp [PyData.depth, PyData.depthKv]⟩
theorem Fine.shw {w k : Nat} {d : PyData} (h : Fine w k d) (hw : w ≤ 80000) (hk : k ≤ 60) : Shw d := by
  refine ⟨h.sh, ?_, Nat.le_trans h.dp hk⟩
  have := PyData.shown_le 200 (by decide) d h.lv
  have e : sizeLine = 16777216 := sizeLine_eq
  have hw' := Nat.le_trans h.wt hw
  omega
theorem two {l : List PyData} {a b : PyData} {R : PyData → Prop} (ha : R a) (hb : R b) : ∀ x ∈ [a, b], R x := by
  intro x hx
  rcases List.mem_cons.mp hx with rfl | hx
  · exact ha
  · rw [List.mem_singleton.mp hx]; exact hb
theorem go_repr {H : Hp} {Q : VK} {x : V} {d : PyData} {w k : Nat} (h : Dq H x d) (hf : Fine w k d) (hw : w ≤ 80000) (hk : k ≤ 60) (q : Q (.str d.shown) H) : rRepr [x] H Q := ⟨x, d, rfl, h, hf.shw hw hk, q⟩
end HX
namespace HX
open PySem PySem.Spec PyProof.Rows L2
def rListQ (K : PySem.W.Frag) : List V → Hp → VK → Prop := fun xs H Q => ∃ p ys, xs = [.ref p] ∧ (SqL K H p ys ∨ SqT K H p ys) ∧ ∀ l, H l = none → Q (.ref l) (upd H l (.lst ys))
theorem call_listQ {X : Cx} : CallR X (.type "list") (rListQ X.K) := call_list_of
theorem go_listL {K : PySem.W.Frag} {H : Hp} {Q : VK} {p : Addr} {ys : List V} (h : Rd H p (.lst ys)) (k : ∀ l, H l = none → Q (.ref l) (upd H l (.lst ys))) : rListQ K [.ref p] H Q := ⟨p, ys, rfl, .inl (.inl h), k⟩
end HX

set_option Elab.async false
set_option linter.all false
set_option maxRecDepth 100000
set_option maxHeartbeats 2000000
/-! texts: methods, slices, what is walked sign by sign -/
namespace HX
open PySem PySem.Spec PyProof.Rows L2 TL
def rSw : V → List V → Hp → VK → Prop := fun x xs H Q => ∃ a b, x = .str a ∧ xs = [.str b] ∧ Q (.bl (Txt.startswith a b)) H
def rFnd : V → List V → Hp → VK → Prop := fun x xs H Q => ∃ a b, x = .str a ∧ xs = [.str b] ∧ Q (.int (Txt.find a b)) H
def rPrt : V → List V → Hp → VK → Prop := fun x xs H Q => ∃ a b, x = .str a ∧ xs = [.str b] ∧ (b.length == 0) = false ∧ a.length ≤ sizeLine ∧ ∀ p, H p = none → Q (.ref p) (upd H p (.tup [.str (Txt.partition a b).1, .str (Txt.partition a b).2.1, .str (Txt.partition a b).2.2]))
def rSpl : V → List V → Hp → VK → Prop := fun x xs H Q => ∃ a b, x = .str a ∧ xs = [.str b] ∧ (b.length == 0) = false ∧ a.length + 2 ≤ sizeLine ∧ rNewStrs (Txt.split a b) H Q
def rJoi (K : PySem.W.Frag) : V → List V → Hp → VK → Prop := fun x xs H Q => ∃ a p, ∃ ys : List Str, x = .str a ∧ xs = [.ref p] ∧ (SqL K H p (ys.map V.str) ∨ SqT K H p (ys.map V.str)) ∧ (ys.map (·.length)).sum + ys.length * a.length ≤ 16777216 ∧ Q (.str (Txt.join a ys)) H
def rLenS : List V → Hp → VK → Prop := fun xs H Q => ∃ z, xs = [.str z] ∧ z.length ≤ sizeLine ∧ Q (.int z.length) H
def rIntS : List V → Hp → VK → Prop := fun xs H Q => ∃ a n, xs = [.str a] ∧ PySem.intText? a = some n ∧ a.length ≤ 640 ∧ Q (.int n) H
def rStrI : List V → Hp → VK → Prop := fun xs H Q => ∃ i : Int, xs = [.int i] ∧ i.natAbs.log2 < 1920 ∧ Q (.str (toString i)) H
def rAllB (K : PySem.W.Frag) : List V → Hp → VK → Prop := fun vs H Q => ∃ (a : Addr) (bs : List Bool), vs = [V.ref a] ∧ SqL K H a (bs.map V.bl) ∧ Q (.bl (bs.all id)) H
def rSgn : R2 := fun x y H Q => ∃ (c : Nat) (z : Str), x = .str ⟨#[c]⟩ ∧ y = .str z ∧ Q (.bl (decide (c ∈ z.cps.toList))) H
def rNsg : R2 := fun x y H Q => ∃ (c : Nat) (z : Str), x = .str ⟨#[c]⟩ ∧ y = .str z ∧ Q (.bl (!decide (c ∈ z.cps.toList))) H
def rAddS : R2 := fun x y H Q => ∃ i j : Str, x = .str i ∧ y = .str j ∧ i.length + j.length ≤ sizeLine ∧ Q (.str (i ++ j)) H
section
variable {X : Cx}
theorem mt_sw : MtR X "str.startswith" rSw := mt_startswith
theorem mt_fnd : MtR X "str.find" rFnd := mt_find
theorem mt_prt : MtR X "str.partition" rPrt := mt_partition
theorem mt_spl : MtR X "str.split" rSpl := mt_split
theorem mt_joi : MtR X "str.join" (rJoi X.K) := mt_join
theorem call_lenS : CallR X (.builtin "len") rLenS := call_len_str
theorem call_intS : CallR X (.type "int") rIntS := call_int_str
theorem call_strI : CallR X (.type "str") rStrI := call_str_int
theorem call_allB (h : X.calm = true) : CallR X (.builtin "all") (rAllB X.K) := cr_all h
theorem op_sgn : OpR X (compareOp .In) rSgn := op_in_sign
theorem op_nsg : OpR X (compareOp .NotIn) rNsg := op_notIn_sign
theorem op_addS : OpR X (binaryOp .Add) rAddS := op_add_str
end
section
variable {K : PySem.W.Frag} {H : Hp} {Q : VK} {σ : L2.St} {to te : TE} {a b z : Str} {r : V → List V → Hp → VK → Prop} {lo hi : Option Int} {c : Nat}
theorem go_m1 (h : to σ H fun x H1 => (∃ a, x = .str a) ∧ te σ H1 fun y H2 => r x [y] H2 Q) : tM1 r to te σ H Q := h
theorem go_isS {P : Prop} (k : P) : (∃ b, V.str a = .str b) ∧ P := ⟨⟨a, rfl⟩, k⟩
theorem go_rSw (q : Q (.bl (Txt.startswith a b)) H) : rSw (.str a) [.str b] H Q := ⟨a, b, rfl, rfl, q⟩
theorem go_rFnd (q : Q (.int (Txt.find a b)) H) : rFnd (.str a) [.str b] H Q := ⟨a, b, rfl, rfl, q⟩
theorem go_rPrt (h1 : (b.length == 0) = false) (h2 : a.length ≤ sizeLine) (q : ∀ p, H p = none → Q (.ref p) (upd H p (.tup [.str (Txt.partition a b).1, .str (Txt.partition a b).2.1, .str (Txt.partition a b).2.2]))) : rPrt (.str a) [.str b] H Q := ⟨a, b, rfl, rfl, h1, h2, q⟩
theorem go_rSpl (h1 : (b.length == 0) = false) (h2 : a.length + 2 ≤ sizeLine) (q : ∀ p, H p = none → Q (.ref p) (upd H p (.lst ((Txt.split a b).map V.str)))) : rSpl (.str a) [.str b] H Q := ⟨a, b, rfl, rfl, h1, h2, q⟩
theorem go_rJoi {p : Addr} {ys : List Str} (h1 : Rd H p (.lst (ys.map V.str))) (h2 : (ys.map (·.length)).sum + ys.length * a.length ≤ 16777216) (q : Q (.str (Txt.join a ys)) H) : rJoi K (.str a) [.ref p] H Q := ⟨a, p, ys, rfl, rfl, .inl (.inl h1), h2, q⟩
theorem go_rLenS (h : z.length ≤ sizeLine) (q : Q (.int z.length) H) : rLenS [.str z] H Q := ⟨z, rfl, h, q⟩
theorem go_rIntS {n : Int} (h1 : PySem.intText? a = some n) (h2 : a.length ≤ 640) (q : Q (.int n) H) : rIntS [.str a] H Q := ⟨a, n, rfl, h1, h2, q⟩
theorem go_rStrI {i : Int} (h : i.natAbs.log2 < 1920) (q : Q (.str (toString i)) H) : rStrI [.int i] H Q := ⟨i, rfl, h, q⟩
theorem go_rAllB {p : Addr} {bs : List Bool} (h : Rd H p (.lst (bs.map V.bl))) (q : Q (.bl (bs.all id)) H) : rAllB K [.ref p] H Q := ⟨p, bs, rfl, .inl h, q⟩
theorem go_sgn (q : Q (.bl (decide (c ∈ z.cps.toList))) H) : rSgn (.str ⟨#[c]⟩) (.str z) H Q := ⟨c, z, rfl, rfl, q⟩
theorem go_nsg (q : Q (.bl (!decide (c ∈ z.cps.toList))) H) : rNsg (.str ⟨#[c]⟩) (.str z) H Q := ⟨c, z, rfl, rfl, q⟩
theorem go_rAddS (h : a.length + b.length ≤ sizeLine) (q : Q (.str (a ++ b)) H) : rAddS (.str a) (.str b) H Q := ⟨a, b, rfl, rfl, h, q⟩
theorem go_slS (h : z.length ≤ sizeLine) (q : Q (.str (L2.cutS z lo hi)) H) : rSlS (.str z) lo hi H Q := ⟨z, rfl, h, q⟩
theorem go_ixS {i : Int} (h : z.length ≤ sizeLine) (hi : atI z.cps.toList i = some c) (q : Q (.str ⟨#[c]⟩) H) : rIxS (.str z) (.int i) H Q := ⟨z, i, c, rfl, rfl, h, hi, q⟩
end
/-- str(x) of an int or None -/
def rStrO : List V → Hp → VK → Prop := fun xs H Q => (∃ i : Int, xs = [.int i] ∧ i.natAbs.log2 < 1920 ∧ Q (.str (toString i)) H) ∨ (xs = [.non] ∧ Q (.str "None") H)
theorem call_strO {X : Cx} : CallR X (.type "str") rStrO := by
  intro pins s σ H xs us Q I r h
  rcases h with ⟨i, rfl, hz, q⟩ | ⟨rfl, q⟩
  · exact call_strI pins s σ H _ us Q I r ⟨i, rfl, hz, q⟩
  · obtain ⟨u, rfl, ru⟩ := vals1 r
    cases ru
    exact PySem.P.str_of_none ⟨.str _, H, I.tok _, ⟨_, rfl⟩, q⟩
def rMulS : R2 := fun x y H Q => ∃ (a : Str) (k : Int), x = .str a ∧ y = .int k ∧ PySem.MulOk a k ∧ Q (.str (Txt.mul a k)) H
theorem op_mulS {X : Cx} : OpR X (binaryOp .Mult) rMulS := by
  intro pins s σ H x y v u Q I rx ry h
  obtain ⟨a, k, rfl, rfl, hk, q⟩ := h
  obtain ⟨t, rfl⟩ := rx
  obtain ⟨t', rfl⟩ := ry
  exact PySem.SB.mul hk fun t' tk => ⟨.str _, H, I.tok _, ⟨_, rfl⟩, q⟩
theorem go_mulS {a : Str} {k : Int} {H : Hp} {Q : VK} (h : PySem.MulOk a k) (q : Q (.str (Txt.mul a k)) H) : rMulS (.str a) (.int k) H Q := ⟨a, k, rfl, rfl, h, q⟩
theorem go_par3 {i j l : Nat} {ta : TA} {D : Ends} {σ : L2.St} {H : Hp} (h : ta σ H fun vs H1 => ∃ u v w, vs = [u, v, w] ∧ D.nx (((σ.set i (some u)).set j (some v)).set l (some w)) H1) : tPar3 i j l ta D σ H := h
theorem go_three {P : V → V → V → Prop} {x y z : V} (h : P x y z) : ∃ u v w, [x, y, z] = [u, v, w] ∧ P u v w := ⟨x, y, z, rfl, h⟩
/-! a comprehension over a text -/
def lcS (x : Str) (g : TG) (tt : TT) (te : TE) (vs : List Nat) : TE := tLc (fun _ H R => R (Its x) H) g tt te vs
section
variable {H : Hp} {Q : VK} {σ : L2.St} {tl te : TE} {tt : TT} {g : TG} {vs : List Nat} {x : Str}
theorem go_lcS (h : tl σ H fun v H1 => ∃ x, v = .str x ∧ lcS x g tt te vs σ H1 Q) : tLc (iStr tl) g tt te vs σ H Q := h
theorem run_lcS (Pv : Addr → Nat → Hp → Prop) (h0 : ∀ D, H D = none → Pv D 0 (upd H D (.lst [])))
    (hs : ∀ D i c H, (TL.tl x)[i]? = some c → Pv D i H → g (.str ⟨#[c]⟩) (wipe σ vs) H fun σ2 H2 => wipe σ2 vs = wipe σ vs ∧ tt σ2 H2 fun b H3 =>
      if b = true then te σ2 H3 fun y H4 => ∃ acc, H4 D = some (.lst acc) ∧ acc.length < sizeLine ∧ Pv D (i + 1) (upd H4 D (.lst (acc ++ [y]))) else Pv D (i + 1) H3) (hd : ∀ D H', H D = none → Pv D (TL.tl x).length H' → Q (.ref D) H') : lcS x g tt te vs σ H Q := by
  intro D hD
  refine ⟨fun i m H => m = x.cps.size - i ∧ i ≤ x.cps.size ∧ Pv D i H, ⟨x.cps.size, by simp, Nat.zero_le _, h0 D hD⟩, ?_⟩
  rintro i m H' ⟨rfl, hi, p⟩
  by_cases hlt : i < x.cps.size
  · refine .inr ⟨hlt, Pv D (i + 1), fun H' p' => ⟨x.cps.size - (i + 1), by omega, rfl, hlt, p'⟩, fun v H2 y => ?_⟩
    obtain ⟨rfl, c, hc, rfl⟩ := y
    exact hs D i c _ (by rw [← hc]; exact Array.getElem?_toList) p
  · obtain rfl : i = x.cps.size := by omega
    exact .inl ⟨Nat.le_refl _, hd D H' hD (by rw [show (TL.tl x).length = x.cps.size from Array.length_toList]; exact p)⟩
end
end HX

set_option Elab.async false
set_option linter.all false
set_option maxRecDepth 100000
set_option maxHeartbeats 1000000

namespace Kx
open PySem PySem.Spec PyProof.Rows L2 HX
open Evl (Ex)
def top (i : Nat) : Stmt := PySem.Challenge.pw_imagetones_k50_errors_of_texts.main.body.getD i (.Pass ⟨0, 0, 0, 0⟩)
/-- the tank: what is left of a cell, a seed, how many draws were mixed (n at most) -/
def JarAt (n : Nat) (H : Hp) (j : Addr) : Prop := ∃ a b c : Int, H j = some (.lst [.int a, .int b, .int c]) ∧ 0 ≤ b ∧ b < 2 ^ 95 ∧ 0 ≤ c ∧ c ≤ n
theorem JarAt.mono {n m : Nat} {H : Hp} {j : Addr} (h : JarAt n H j) (e : n ≤ m) : JarAt m H j := by
  obtain ⟨a, b, c, h1, h2, h3, h4, h5⟩ := h
  exact ⟨a, b, c, h1, h2, h3, h4, by omega⟩
theorem JarAt.keep {n : Nat} {H H' : Hp} {j : Addr} (h : JarAt n H j) (e : H' j = H j) : JarAt n H' j := let ⟨a, b, c, h, r⟩ := h; ⟨a, b, c, e.trans h, r⟩
theorem JarAt.obj {n : Nat} {H : Hp} {j : Addr} (h : JarAt n H j) : ∃ o, H j = some o := let ⟨_, _, _, h, _⟩ := h; ⟨_, h⟩
def spJar (K : PySem.W.Frag) : Sp := fun vs H Q _ => ∃ (a : Addr) (ns : List Int) (i : Nat), vs = [.ref a, .int i] ∧ SqL K H a (ns.map V.int) ∧ i < 1000 ∧ ∀ j H', H j = none → Ex H H' → JarAt 0 H' j → Q (.ref j) H'
def spPick : Sp := fun vs H Q _ => ∃ (j : Addr) (bound : Int) (n : Nat), vs = [.ref j, .int bound] ∧ JarAt n H j ∧ n < 2 ^ 50 ∧ 0 < bound ∧ bound < 2 ^ 400 ∧
  ∀ (r : Int) (H' : Hp), 0 ≤ r → r < bound → JarAt (n + 1) H' j → Jx [j] H H' → Q (.int r) H'
theorem pick_go {j : Addr} {bound : Int} {n : Nat} {H : Hp} {Q : VK} {E : XK} (hJ : JarAt n H j) (hn : n < 2 ^ 50) (h0 : 0 < bound) (h1 : bound < 2 ^ 400)
    (k : ∀ (r : Int) (H' : Hp), 0 ≤ r → r < bound → JarAt (n + 1) H' j → Jx [j] H H' → Q (.int r) H') : spPick ([.ref j, .int bound] ++ []) H Q E := ⟨j, bound, n, rfl, hJ, hn, h0, h1, k⟩
local macro_rules | `(tactic| walk_at "side") => `(tactic| first | assumption | ((try dsimp only); first | assumption | decide +kernel | omega | exact ⟨by decide, by decide⟩ | (left; decide) | (left; omega) | (refine Or.inl ⟨?_, ?_⟩ <;> omega) | (refine Or.inr ⟨?_, ?_⟩ <;> omega)))
local macro_rules | `(tactic| walk_at "heap") => `(tactic| first | assumption | exact upd_same | exact Or.inl (by assumption) | exact Or.inl upd_same)
local macro_rules | `(tactic| walk_at "item") => `(tactic| first | exact rfl | exact atI_nat (j := 0) rfl | exact atI_nat (j := 1) rfl | exact atI_nat (j := 2) rfl | assumption)
local macro_rules | `(tactic| walk_at "rd") => `(tactic| repeat (first
  | ((with_reducible refine' go_var ?hv ?_); (case hv => exact rfl))
  | with_reducible refine' go_c ?_
  | with_reducible refine' go_op ?_
  | with_reducible refine' go_seq ?_
  | with_reducible refine' go_asg ?_
  | with_reducible refine' go_name ?_
  | with_reducible refine' go_cons ?_
  | with_reducible refine' go_nil ?_
  | with_reducible refine' go_cb ?_
  | with_reducible refine' go_call ?_
  | with_reducible refine' go_ifS ?_
  | with_reducible refine' go_test ?_
  | with_reducible refine' go_bl ?_
  | with_reducible refine' go_ret ?_
  | with_reducible refine' go_I0 ?_
  | ((with_reducible refine' go_I ?cc ?_); (case cc => walk_at "side"))
  | ((with_reducible refine' go_ixL ?hh ?hk ?_); (case hh => walk_at "heap"); (case hk => walk_at "item"))
  | ((with_reducible refine' go_ixT ?hh ?hk ?_); (case hh => walk_at "heap"); (case hk => walk_at "item"))
  | ((with_reducible refine' go_lenL ?hh ?_); (case hh => walk_at "heap"))
  | ((with_reducible refine' go_lenT ?hh ?_); (case hh => walk_at "heap"))
  | ((with_reducible refine' go_setL ?hh ?hk ?_); (case hh => walk_at "heap"); (case hk => walk_at "item"))
  | with_reducible refine' go_abs ?_
  | with_reducible refine' go_max ?_
  | with_reducible refine' go_min ?_
  | with_reducible refine' go_int ?_
  | with_reducible refine' go_intB ?_
  | (with_reducible refine' go_eq rfl ?_)
  | (with_reducible refine' go_ne rfl ?_)
  | with_reducible refine' go_isN ?_
  | with_reducible refine' go_notN ?_
  | with_reducible refine' go_if ?_
  | with_reducible refine' go_sub ?_
  | with_reducible refine' go_par ?_
  | with_reducible refine' go_sl ?_
  | with_reducible refine' go_part ?_
  | with_reducible refine' go_pint ?_
  | with_reducible refine' go_nopart ?_
  | ((with_reducible refine' go_lenL ?hh ?_); (case hh => walk_at "heap"))
  | ((with_reducible refine' go_lenT ?hh ?_); (case hh => walk_at "heap"))
  | ((with_reducible refine' go_lenS ?hh ?_); (case hh => assumption))
  | with_reducible refine' go_gcons ?_
  | with_reducible refine' go_gnil ?_
  | with_reducible refine' go_kw ?_
  | with_reducible refine' go_par2 ?_
  | with_reducible refine' go_next ?_
  | with_reducible refine' go_drop ?_
  | with_reducible refine' go_and ?_
  | with_reducible refine' go_or ?_
  | with_reducible refine' go_not ?_
  | with_reducible refine' go_B ?_
  | with_reducible refine' go_andV ?_
  | with_reducible refine' go_orV ?_
  | with_reducible refine' go_notV ?_
  | with_reducible refine' go_chain ?_
  | with_reducible refine' go_un ?_
  | with_reducible refine' go_U ?_
  | with_reducible refine' go_bm ?_
  | with_reducible refine' go_tup ?_
  | with_reducible refine' go_lst ?_
  | with_reducible refine' go_forR1 ?_
  | with_reducible refine' go_forR2 ?_
  | with_reducible refine' go_forL ?_
  | with_reducible refine' go_forT ?_
  | with_reducible refine' go_forE ?_
  | with_reducible refine' go_lcR1 ?_
  | with_reducible refine' go_lcL ?_
  | with_reducible refine' go_lcT ?_
  | ((with_reducible refine' go_tyL ?hh ?_); (case hh => walk_at "heap"))
  | ((with_reducible refine' go_new ?hz ?_); (case hz => exact Nat.le_of_ble_eq_true rfl))
  | (with_reducible refine' ⟨_, rfl, ?_⟩)
  ))
--MACEND
section
variable {P : Program} {w : World} {K : PySem.W.Frag} {mg : Str → Option Value} {base : Heap}
abbrev s__law_tank : Stmt := top 39
theorem sc__law_tank : FnScope ["script", "at", "cell"] ["script", "at"] (defScope s__law_tank) := ⟨rfl, rfl, rfl, by decide +kernel, rfl, by decide +kernel, by decide +kernel⟩
theorem ok_tank {f : Addr} {fd : FuncData} (F : Fun K "_law_tank" "_law_tank" s__law_tank f fd) (m_len : mg "len" = none) (m_max : mg "max" = none) (m_abs : mg "abs" = none) (m_int : mg "int" = none) :
    FnOk P w K mg base CX0 1 f fd ["script", "at"] (spJar K) := by
  refine F.ok sc__law_tank (fun vs H Q E h => ?_) (fun cdv A outer s H vs Q E hr h => ?_)
  · obtain ⟨a, ns, i, rfl, _⟩ := h
    rfl
  · obtain ⟨a, ns, i, rfl, hS, hi, k⟩ := h
    refine ⟨_, (pss_cons (ps_set (i := 2) sc__law_tank.nd rfl (Or.inl rfl) (pe_ifExp (pt_cmpR op_lt (pv 1) (pe_callB call_lenQ rfl m_len PySem.boot_len (pa_cons (pv 0) pa_nil)) (nomark _)) (pe_ix ix_list (pv 0) (pv 1) (fun _ _ => rfl)) pe_int))
  (pss_one (ps_ret (pe_lst (pa_cons (pe_callB (call_maxQ rfl) rfl m_max boot_max (pa_cons pe_int (pa_cons (pe_op op_sub (pe_callB call_absQ rfl m_abs (by decide +kernel) (pa_cons (pv 2) pa_nil)) (pe_op op_powW pe_int pe_int)) pa_nil))) (pa_cons (pe_op op_add (pe_op op_mod (pe_callTy call_intQ rfl m_int boot_int (pa_cons (pv 2) pa_nil)) pe_int) (pe_op op_mul pe_int (pe_op op_add (pv 1) pe_int))) (pa_cons pe_int pa_nil))))))), ?_⟩
    refine cut_e (te := tIf _ _ _) (fun v H' => ∃ cell : Int, v = .int cell ∧ H' = H) (fun Q' q => ?_) ?_
    · refine ⟨_, rfl, _, rfl, a, _, rfl, .inl hS, _, _, rfl, rfl, _, rfl, ite2 (fun h => ?_) (fun h => q _ _ ⟨_, rfl, rfl⟩)⟩
      have hlt : i < ns.length := by simpa using h
      refine ⟨_, rfl, _, rfl, _, _, _, V.int ns[i], rfl, rfl, hS, atI_nat (by simp [hlt]), q _ _ ⟨_, rfl, rfl⟩⟩
    · rintro v H' ⟨cell, rfl, rfl⟩
      have c18 : CPowW 10 18 := wide_pow (b := 4) (by decide) (by decide) (by decide)
      walk_at "rd"
      intro p hp
      refine k _ _ hp (Ex.new hp) ⟨_, _, _, upd_same, ?_, ?_, by decide, by decide⟩
      · omega
      · omega
abbrev s__law_tap : Stmt := top 40
theorem sc__law_tap : FnScope ["tank", "many", "drawn", "mixed"] ["tank", "many"] (defScope s__law_tap) := ⟨rfl, rfl, rfl, by decide +kernel, rfl, by decide +kernel, by decide +kernel⟩
theorem ok_tap {f : Addr} {fd : FuncData} (F : Fun K "_law_tap" "_law_tap" s__law_tap f fd) (m_int : mg "int" = none) :
    FnOk P w K mg base CX0 1 f fd ["tank", "many"] spPick := by
  refine F.ok sc__law_tap (fun vs H Q E h => ?_) (fun cdv A outer s H vs Q E hr h => ?_)
  · obtain ⟨j, bound, n, rfl, _⟩ := h
    rfl
  · obtain ⟨j, bound, n, rfl, ⟨a, b, c, hj, b0, b1, c0, c1⟩, hn, hb0, hb1, k⟩ := h
    refine ⟨_, (pss_cons (ps_if (pt_cmpR op_gt (pe_ix ix_list (pv 0) pe_int (fun _ _ => rfl)) pe_int (nomark _))
  (pss_cons (ps_set (i := 2) sc__law_tap.nd rfl (Or.inl rfl) (pe_op op_mod (pe_callTy call_intQ rfl m_int boot_int (pa_cons (pe_ix ix_list (pv 0) pe_int (fun _ _ => rfl)) pa_nil)) (pv 1)))
  (pss_cons (ps_asg (pe_op op_fdivW (pe_ix ix_list (pv 0) pe_int (fun _ _ => rfl)) (pv 1)) (pg_sub (pv 0) pe_int set_list))
  (pss_one (ps_ret (pv 2)))))
  pss_nil)
  (pss_cons (ps_asg (pe_op op_add (pe_ix ix_list (pv 0) pe_int (fun _ _ => rfl)) pe_int) (pg_sub (pv 0) pe_int set_list))
  (pss_cons (ps_set (i := 3) sc__law_tap.nd rfl (Or.inl rfl) (pe_op op_mod (pe_callTy call_intQ rfl m_int boot_int (pa_cons (pe_op op_powW (pe_op op_add (pe_ix ix_list (pv 0) pe_int (fun _ _ => rfl)) (pe_op op_mul pe_int (pe_ix ix_list (pv 0) pe_int (fun _ _ => rfl)))) pe_int) pa_nil)) pe_int))
  (pss_cons (ps_set (i := 3) sc__law_tap.nd rfl (Or.inl rfl) (pe_op op_mod (pe_callTy call_intQ rfl m_int boot_int (pa_cons (pe_op op_powW (pe_op op_add (pv 3) (pe_op op_mul pe_int (pe_ix ix_list (pv 0) pe_int (fun _ _ => rfl)))) pe_int) pa_nil)) (pe_op op_add (pe_op op_powW pe_int pe_int) pe_int)))
  (pss_one (ps_ret (pe_op op_mod (pe_callTy call_intQ rfl m_int boot_int (pa_cons (pe_op op_fdiv (pv 3) pe_int) pa_nil)) (pv 1)))))))), ?_⟩
    have e46 : (10 : Int) ^ (46 : Int).toNat + 9 = 10000000000000000000000000000000000000000000009 := by decide +kernel
    have p46 : CPowW 10 46 := wide_pow (b := 4) (by decide) (by decide) (by decide)
    walk_at "rd"
    refine ite2 (fun h => ?_) (fun h => ?_)
    · have ha : 0 < a := by simpa using h
      have hd : CDivW a bound := wide_div (b := 400) hb0 (by omega) (by decide) (by decide)
      walk_at "rd"
      exact k _ _ (Int.emod_nonneg _ (by omega)) (Int.emod_lt_of_pos _ hb0) ⟨_, b, c, upd_same, b0, b1, c0, by omega⟩ (Jx.upd (by simp))
    · have q1 : CPowW (b + 350377 * (c + 1)) 3 := wide_pow (b := 200) (by omega) (by decide) (by decide)
      have q2 : ∀ z : Int, CPowW (z % 170141183460469231731687303715884105727 + 27644437 * (c + 1)) 3 := fun z => wide_pow (b := 200) (by omega) (by decide) (by decide)
      walk_at "rd"
      refine go_I (q2 _) ?_
      walk_at "rd"
      refine k _ _ (Int.emod_nonneg _ (by omega)) (Int.emod_lt_of_pos _ hb0) ⟨a, b, c + 1, upd_same, b0, b1, by omega, by omega⟩ (Jx.upd (by simp))
end
end Kx

set_option Elab.async false
set_option linter.all false
set_option maxRecDepth 100000
set_option maxHeartbeats 2000000

namespace Kx
open PySem PySem.Spec PyProof.Rows L2 HX
open Evl (Ex)
/-! ### receivers as data -/
inductive Stg where
  | mix (lo : Int) | dial (add : Int) | pass (lo hi : Int)
def Stg.d : Stg → PyData
  | .mix lo => .tuple [.str "mix", .int lo]
  | .dial a => .tuple [.str "dial", .int a]
  | .pass lo hi => .tuple [.str "pass", .int lo, .int hi]
def Stg.ok (b : Int) : Stg → Prop
  | .mix lo => 0 ≤ lo ∧ lo ≤ b
  | .dial a => -b ≤ a ∧ a ≤ b
  | .pass lo hi => 0 ≤ lo ∧ lo ≤ hi ∧ hi ≤ b
def Stg.isDial : Stg → Bool
  | .dial _ => true
  | _ => false
def dials (ss : List Stg) : Nat := (ss.filter Stg.isDial).length
def rateD : Option Int → PyData
  | none => .none
  | some r => .int r
structure Rad (b : Int) (ss : List Stg) (rate : Option Int) : Prop where
  ne : ss ≠ []
  le : ss.length ≤ 8
  ok : ∀ s ∈ ss, s.ok b
  one : dials ss ≤ 1
  rate : ∀ r, rate = some r → 2 ≤ r ∧ r ≤ b
def radD (ss : List Stg) (rate : Option Int) : PyData := .tuple [.list (ss.map Stg.d), rateD rate]
/-- a stage's tuple at a -/
theorem stg_at {H : Hp} {v : V} {s : Stg} (h : Dq H v s.d) : ∃ a, v = .ref a ∧ match s with
    | .mix lo => Rd H a (.tup [.str "mix", .int lo])
    | .dial x => Rd H a (.tup [.str "dial", .int x])
    | .pass lo hi => Rd H a (.tup [.str "pass", .int lo, .int hi]) := by
  cases s with
  | mix lo => cases h with | tup h1 h2 => cases h2 with | cons q1 q2 => cases q1; cases q2 with | cons q3 q4 => cases q3; cases q4; exact ⟨_, rfl, h1⟩
  | dial lo => cases h with | tup h1 h2 => cases h2 with | cons q1 q2 => cases q1; cases q2 with | cons q3 q4 => cases q3; cases q4; exact ⟨_, rfl, h1⟩
  | pass lo hi => cases h with | tup h1 h2 => cases h2 with | cons q1 q2 => cases q1; cases q2 with | cons q3 q4 => cases q3; cases q4 with | cons q5 q6 => cases q5; cases q6; exact ⟨_, rfl, h1⟩
def Stg.vals : Stg → List V
  | .mix lo => [.str "mix", .int lo]
  | .dial x => [.str "dial", .int x]
  | .pass lo hi => [.str "pass", .int lo, .int hi]
theorem dq_stg {S : List Addr} {G : Hp} {q : Addr} {s : Stg} (h : G q = some (.tup s.vals)) (hq : q ∉ S) : Dq (hid S G) (.ref q) s.d := by
  have h' : hid S G q = some (.tup s.vals) := by rw [hid_ne hq]; exact h
  cases s with
  | mix lo => exact .tup (.inl h') (.cons (.str _) (.cons (.int _) .nil))
  | dial x => exact .tup (.inl h') (.cons (.str _) (.cons (.int _) .nil))
  | pass lo hi => exact .tup (.inl h') (.cons (.str _) (.cons (.int _) (.cons (.int _) .nil)))
theorem dials_app (ss : List Stg) (s : Stg) : dials (ss ++ [s]) = dials ss + (if s.isDial then 1 else 0) := by
  unfold dials
  rw [List.filter_append, List.length_append, List.filter_cons]
  split <;> rfl
def spRadio : Sp := fun vs H Q _ => ∃ (j : Addr) (most far : Int) (n : Nat), vs = [.ref j, .int most, .int far] ∧ JarAt n H j ∧ n < 2 ^ 40 ∧ 1 ≤ most ∧ most ≤ 8 ∧ 1 ≤ far ∧ far < 2 ^ 200 ∧
  ∀ (p : Addr) (ss : List Stg) (rate : Option Int) (H' : Hp), Rad (10 * far + 20) ss rate → ss.length ≤ most.toNat → Dq (hid [j] H') (.ref p) (radD ss rate) → H p = none → JarAt (n + 100) H' j → Jx [j] H H' → Q (.ref p) H'
local macro_rules | `(tactic| walk_at "side") => `(tactic| first | assumption | ((try dsimp only); first | assumption | decide +kernel | omega | exact ⟨by decide, by decide⟩ | (left; decide) | (left; omega) | (refine Or.inl ⟨?_, ?_⟩ <;> omega) | (refine Or.inr ⟨?_, ?_⟩ <;> omega)))
local macro_rules | `(tactic| walk_at "heap") => `(tactic| first | assumption | exact upd_same | exact Or.inl (by assumption) | exact Or.inl upd_same)
local macro_rules | `(tactic| walk_at "item") => `(tactic| first | exact rfl | exact atI_nat (j := 0) rfl | exact atI_nat (j := 1) rfl | exact atI_nat (j := 2) rfl | assumption)
local macro_rules | `(tactic| walk_at "rd") => `(tactic| repeat (first
  | ((with_reducible refine' go_var ?hv ?_); (case hv => exact rfl))
  | with_reducible refine' go_c ?_
  | with_reducible refine' go_op ?_
  | with_reducible refine' go_seq ?_
  | with_reducible refine' go_asg ?_
  | with_reducible refine' go_name ?_
  | with_reducible refine' go_cons ?_
  | with_reducible refine' go_nil ?_
  | with_reducible refine' go_cb ?_
  | with_reducible refine' go_call ?_
  | with_reducible refine' go_ifS ?_
  | with_reducible refine' go_test ?_
  | with_reducible refine' go_bl ?_
  | with_reducible refine' go_ret ?_
  | with_reducible refine' go_I0 ?_
  | ((with_reducible refine' go_I ?cc ?_); (case cc => walk_at "side"))
  | ((with_reducible refine' go_ixL ?hh ?hk ?_); (case hh => walk_at "heap"); (case hk => walk_at "item"))
  | ((with_reducible refine' go_ixT ?hh ?hk ?_); (case hh => walk_at "heap"); (case hk => walk_at "item"))
  | ((with_reducible refine' go_lenL ?hh ?_); (case hh => walk_at "heap"))
  | ((with_reducible refine' go_lenT ?hh ?_); (case hh => walk_at "heap"))
  | ((with_reducible refine' go_setL ?hh ?hk ?_); (case hh => walk_at "heap"); (case hk => walk_at "item"))
  | with_reducible refine' go_abs ?_
  | with_reducible refine' go_max ?_
  | with_reducible refine' go_min ?_
  | with_reducible refine' go_int ?_
  | with_reducible refine' go_intB ?_
  | (with_reducible refine' go_eq rfl ?_)
  | (with_reducible refine' go_ne rfl ?_)
  | with_reducible refine' go_isN ?_
  | with_reducible refine' go_notN ?_
  | with_reducible refine' go_if ?_
  | with_reducible refine' go_sub ?_
  | with_reducible refine' go_par ?_
  | with_reducible refine' go_sl ?_
  | with_reducible refine' go_part ?_
  | with_reducible refine' go_pint ?_
  | with_reducible refine' go_nopart ?_
  | ((with_reducible refine' go_lenL ?hh ?_); (case hh => walk_at "heap"))
  | ((with_reducible refine' go_lenT ?hh ?_); (case hh => walk_at "heap"))
  | ((with_reducible refine' go_lenS ?hh ?_); (case hh => assumption))
  | with_reducible refine' go_gcons ?_
  | with_reducible refine' go_gnil ?_
  | with_reducible refine' go_kw ?_
  | with_reducible refine' go_par2 ?_
  | with_reducible refine' go_next ?_
  | with_reducible refine' go_drop ?_
  | with_reducible refine' go_and ?_
  | with_reducible refine' go_or ?_
  | with_reducible refine' go_not ?_
  | with_reducible refine' go_B ?_
  | with_reducible refine' go_andV ?_
  | with_reducible refine' go_orV ?_
  | with_reducible refine' go_notV ?_
  | with_reducible refine' go_chain ?_
  | with_reducible refine' go_un ?_
  | with_reducible refine' go_U ?_
  | with_reducible refine' go_bm ?_
  | with_reducible refine' go_tup ?_
  | with_reducible refine' go_lst ?_
  | with_reducible refine' go_forR1 ?_
  | with_reducible refine' go_forR2 ?_
  | with_reducible refine' go_forL ?_
  | with_reducible refine' go_forT ?_
  | with_reducible refine' go_forE ?_
  | with_reducible refine' go_lcR1 ?_
  | with_reducible refine' go_lcL ?_
  | with_reducible refine' go_lcT ?_
  | ((with_reducible refine' go_tyL ?hh ?_); (case hh => walk_at "heap"))
  | ((with_reducible refine' go_new ?hz ?_); (case hz => exact Nat.le_of_ble_eq_true rfl))
  | (with_reducible refine' ⟨_, rfl, ?_⟩)
  ))
--MACEND
section
variable {P : Program} {w : World} {K : PySem.W.Frag} {mg : Str → Option Value} {base : Heap}
/-- what stands between two laps: the list at l holds the data ss, of which no more than one is a dial, none before the lap `spot` -/
structure Lap (b : Int) (S : List Addr) (l : Addr) (i : Nat) (spot : Int) (H : Hp) (vs : List V) (ss : List Stg) : Prop where
  at_ : H l = some (.lst vs)
  da : DqAll (hid S H) vs (ss.map Stg.d)
  len : ss.length = i
  ok : ∀ s ∈ ss, s.ok b
  one : dials ss ≤ if spot < i then 1 else 0
theorem Lap.jar {b : Int} {S : List Addr} {l : Addr} {i : Nat} {spot : Int} {H H' : Hp} {vs : List V} {ss : List Stg} (h : Lap b S l i spot H vs ss) (e : Jx S H H') (hl : H' l = H l) : Lap b S l i spot H' vs ss :=
  ⟨hl.trans h.at_, e.dqa h.da, h.len, h.ok, h.one⟩
/-- one more stage -/
theorem Lap.app {b : Int} {S : List Addr} {l : Addr} {i : Nat} {spot : Int} {H : Hp} {vs : List V} {ss : List Stg} {v : V} {s : Stg} (h : Lap b S l i spot H vs ss) (hS : l ∈ S) (hv : Dq (hid S H) v s.d) (hs : s.ok b)
    (hd : s.isDial = true → (i : Int) = spot) : Lap b S l (i + 1) spot (upd H l (.lst (vs ++ [v]))) (vs ++ [v]) (ss ++ [s]) := by
  refine ⟨upd_same, ?_, by rw [List.length_append, h.len]; rfl, fun x hx => ?_, ?_⟩
  · rw [hid_upd hS, List.map_append]
    exact h.da.app (.one hv)
  · rcases List.mem_append.mp hx with hx | hx
    · exact h.ok x hx
    · rw [List.mem_singleton.mp hx]; exact hs
  · have h1 := h.one
    rw [dials_app]
    by_cases q : s.isDial = true
    · have := hd q
      rw [if_pos q, if_pos (by omega)]
      rw [if_neg (by omega)] at h1
      omega
    · rw [if_neg q]
      by_cases z : spot < (i : Int)
      · rw [if_pos z] at h1; rw [if_pos (by omega)]; omega
      · rw [if_neg z] at h1
        have : dials ss = 0 := by omega
        rw [this]
        split <;> omega
theorem Jx_free {S : List Addr} {H H' : Hp} {t : Addr} (e : Jx S H H') (h : H' t = none) (ht : ∀ s ∈ S, H' s ≠ none) : H t = none := by
  cases q : H t with
  | none => rfl
  | some o =>
    have := e.get q fun z => ht t z h
    rw [h] at this
    cases this
theorem dqa_snoc {H : Hp} : ∀ {vs : List V} {ds : List PyData} {d : PyData}, DqAll H vs (ds ++ [d]) → ∃ vs0 v, vs = vs0 ++ [v] ∧ DqAll H vs0 ds ∧ Dq H v d
  | _, [], d, .cons (v := v) h k => by cases k; exact ⟨[], v, rfl, .nil, h⟩
  | _, e :: ds, d, .cons (v := v) h k => by
    obtain ⟨vs0, w, rfl, h1, h2⟩ := dqa_snoc k
    exact ⟨v :: vs0, w, rfl, .cons h h1, h2⟩
theorem stgs_nil (ss : List Stg) : PyData.eqv (.list (ss.map Stg.d)) (.list []) = ss.isEmpty := by cases ss <;> simp [PyData.eqv, PyData.eqvAll]
/-- the name of a stage -/
def Stg.nm : Stg → Str
  | .mix _ => "mix"
  | .dial _ => "dial"
  | .pass _ _ => "pass"
theorem stg_nm {H : Hp} {v : V} {s : Stg} (h : Dq H v s.d) : ∃ a xs, v = .ref a ∧ Rd H a (.tup xs) ∧ atI xs 0 = some (.str s.nm) := by
  obtain ⟨a, rfl, h⟩ := stg_at h
  cases s with
  | mix lo => exact ⟨_, _, rfl, h, rfl⟩
  | dial lo => exact ⟨_, _, rfl, h, rfl⟩
  | pass lo hi => exact ⟨_, _, rfl, h, rfl⟩
theorem nm_dial (s : Stg) : decide (V.str s.nm = V.str "dial") = s.isDial := by
  cases s with
  | mix lo => exact (by decide +kernel : decide (V.str "mix" = V.str "dial") = false)
  | dial lo => exact (by decide +kernel : decide (V.str "dial" = V.str "dial") = true)
  | pass lo hi => exact (by decide +kernel : decide (V.str "pass" = V.str "dial") = false)
theorem strs_ok : PyData.strOk "mix" = true ∧ PyData.strOk "dial" = true ∧ PyData.strOk "pass" = true := by decide +kernel
theorem lay_stg : ∀ s : Stg, s.d.canLay0 = true
  | .mix lo => by simp [Stg.d, PyData.canLay0, PyData.canLayAll0, strs_ok]
  | .dial lo => by simp [Stg.d, PyData.canLay0, PyData.canLayAll0, strs_ok]
  | .pass lo hi => by simp [Stg.d, PyData.canLay0, PyData.canLayAll0, strs_ok]
theorem depth_stg : ∀ s : Stg, s.d.depth = 1
  | .mix lo => rfl
  | .dial lo => rfl
  | .pass lo hi => rfl
theorem lay_stgs : ∀ ss : List Stg, PyData.canLayAll0 (ss.map Stg.d) = true ∧ PyData.depthAll (ss.map Stg.d) ≤ 1
  | [] => ⟨rfl, Nat.zero_le _⟩
  | s :: ss => by
    obtain ⟨h1, h2⟩ := lay_stgs ss
    refine ⟨by rw [List.map_cons, PyData.canLayAll0, lay_stg, h1]; rfl, ?_⟩
    rw [List.map_cons, PyData.depthAll, depth_stg]
    omega
theorem shaped_stgs (ss : List Stg) : SeqAt.shaped (.list (ss.map Stg.d)) = true := by
  obtain ⟨h1, h2⟩ := lay_stgs ss
  unfold SeqAt.shaped
  rw [Bool.and_eq_true]
  refine ⟨by simpa [PyData.canLay0] using h1, decide_eq_true ?_⟩
  rw [PyData.depth]
  omega
theorem menu_int (xs : List Int) (lo hi : Int) {u : Int} (h0 : 0 ≤ u) (h1 : u < xs.length) (hb : ∀ x ∈ xs, lo ≤ x ∧ x ≤ hi) : ∃ x, atI (xs.map V.int) u = some (.int x) ∧ lo ≤ x ∧ x ≤ hi := by
  obtain ⟨k, rfl⟩ : ∃ k : Nat, u = k := ⟨u.toNat, by omega⟩
  have hk : k < xs.length := by omega
  exact ⟨xs[k], atI_nat (by rw [List.getElem?_map, List.getElem?_eq_getElem hk]; rfl), hb _ (List.getElem_mem hk)⟩
theorem JarAt.fresh {n : Nat} {H H' : Hp} {j t : Addr} (J : JarAt n H' j) (e : Jx [j] H H') (h : H' t = none) : H t = none :=
  Jx_free e h fun s hs z => by
    obtain rfl : s = j := by simpa using hs
    obtain ⟨o, q⟩ := J.obj
    rw [z] at q
    cases q
theorem Lap.lay {b : Int} {S : List Addr} {l p : Addr} {i : Nat} {spot : Int} {H : Hp} {o : HO} {vs : List V} {ss : List Stg} (h : Lap b S l i spot H vs ss) (hp : H p = none) : Lap b S l i spot (upd H p o) vs ss :=
  h.jar (Jx.new hp) (upd_ne (fresh_ne h.at_ hp).symm)
theorem Lap.pick {b : Int} {l j : Addr} {i : Nat} {spot : Int} {H H' : Hp} {vs : List V} {ss : List Stg} (h : Lap b [l, j] l i spot H vs ss) (hlj : l ≠ j) (e : Jx [j] H H') : Lap b [l, j] l i spot H' vs ss :=
  h.jar (e.more (by simp)) ((e.get h.at_ (nin1 hlj)).trans h.at_.symm)
end
end Kx

set_option Elab.async false
set_option linter.all false
set_option maxRecDepth 100000
set_option maxHeartbeats 2000000

namespace Kx
open PySem PySem.Spec PyProof.Rows L2 HX
open Evl (Ex)
local macro_rules | `(tactic| walk_at "side") => `(tactic| first | assumption | ((try dsimp only); first | assumption | decide +kernel | omega | exact ⟨by decide, by decide⟩ | (left; decide) | (left; omega) | (refine Or.inl ⟨?_, ?_⟩ <;> omega) | (refine Or.inr ⟨?_, ?_⟩ <;> omega)))
local macro_rules | `(tactic| walk_at "heap") => `(tactic| first | assumption | exact upd_same | exact Or.inl (by assumption) | exact Or.inl upd_same)
local macro_rules | `(tactic| walk_at "item") => `(tactic| first | exact rfl | exact atI_nat (j := 0) rfl | exact atI_nat (j := 1) rfl | exact atI_nat (j := 2) rfl | assumption)
local macro_rules | `(tactic| walk_at "rd") => `(tactic| repeat (first
  | ((with_reducible refine' go_var ?hv ?_); (case hv => exact rfl))
  | with_reducible refine' go_c ?_
  | with_reducible refine' go_op ?_
  | with_reducible refine' go_seq ?_
  | with_reducible refine' go_asg ?_
  | with_reducible refine' go_name ?_
  | with_reducible refine' go_cons ?_
  | with_reducible refine' go_nil ?_
  | with_reducible refine' go_cb ?_
  | with_reducible refine' go_call ?_
  | with_reducible refine' go_ifS ?_
  | with_reducible refine' go_test ?_
  | with_reducible refine' go_bl ?_
  | with_reducible refine' go_ret ?_
  | with_reducible refine' go_I0 ?_
  | ((with_reducible refine' go_I ?cc ?_); (case cc => walk_at "side"))
  | ((with_reducible refine' go_ixL ?hh ?hk ?_); (case hh => walk_at "heap"); (case hk => walk_at "item"))
  | ((with_reducible refine' go_ixT ?hh ?hk ?_); (case hh => walk_at "heap"); (case hk => walk_at "item"))
  | ((with_reducible refine' go_lenL ?hh ?_); (case hh => walk_at "heap"))
  | ((with_reducible refine' go_lenT ?hh ?_); (case hh => walk_at "heap"))
  | ((with_reducible refine' go_setL ?hh ?hk ?_); (case hh => walk_at "heap"); (case hk => walk_at "item"))
  | with_reducible refine' go_abs ?_
  | with_reducible refine' go_max ?_
  | with_reducible refine' go_min ?_
  | with_reducible refine' go_int ?_
  | with_reducible refine' go_intB ?_
  | (with_reducible refine' go_eq rfl ?_)
  | (with_reducible refine' go_ne rfl ?_)
  | with_reducible refine' go_isN ?_
  | with_reducible refine' go_notN ?_
  | with_reducible refine' go_if ?_
  | with_reducible refine' go_sub ?_
  | with_reducible refine' go_par ?_
  | with_reducible refine' go_sl ?_
  | with_reducible refine' go_part ?_
  | with_reducible refine' go_pint ?_
  | with_reducible refine' go_nopart ?_
  | ((with_reducible refine' go_lenL ?hh ?_); (case hh => walk_at "heap"))
  | ((with_reducible refine' go_lenT ?hh ?_); (case hh => walk_at "heap"))
  | ((with_reducible refine' go_lenS ?hh ?_); (case hh => assumption))
  | with_reducible refine' go_gcons ?_
  | with_reducible refine' go_gnil ?_
  | with_reducible refine' go_kw ?_
  | with_reducible refine' go_par2 ?_
  | with_reducible refine' go_next ?_
  | with_reducible refine' go_drop ?_
  | with_reducible refine' go_and ?_
  | with_reducible refine' go_or ?_
  | with_reducible refine' go_not ?_
  | with_reducible refine' go_B ?_
  | with_reducible refine' go_andV ?_
  | with_reducible refine' go_orV ?_
  | with_reducible refine' go_notV ?_
  | with_reducible refine' go_chain ?_
  | with_reducible refine' go_un ?_
  | with_reducible refine' go_U ?_
  | with_reducible refine' go_bm ?_
  | with_reducible refine' go_tup ?_
  | with_reducible refine' go_lst ?_
  | with_reducible refine' go_forR1 ?_
  | with_reducible refine' go_forR2 ?_
  | with_reducible refine' go_forL ?_
  | with_reducible refine' go_forT ?_
  | with_reducible refine' go_forE ?_
  | with_reducible refine' go_lcR1 ?_
  | with_reducible refine' go_lcL ?_
  | with_reducible refine' go_lcT ?_
  | ((with_reducible refine' go_tyL ?hh ?_); (case hh => walk_at "heap"))
  | ((with_reducible refine' go_new ?hz ?_); (case hz => exact Nat.le_of_ble_eq_true rfl))
  | (with_reducible refine' ⟨_, rfl, ?_⟩)
  ))
--MACEND
def isInt : PyData → Bool
  | .int _ => true
  | _ => false
def isNat : PyData → Bool
  | .int i => decide (0 ≤ i)
  | _ => false
def isBand : PyData → Bool
  | .tuple [.int a, .int b] => decide (0 ≤ a) && decide (0 ≤ b) && decide (a ≤ b)
  | _ => false
def isStage : PyData → Bool
  | .tuple (.str k :: d :: ds) => if k = "mix" then ds.isEmpty && isNat d else if k = "dial" then ds.isEmpty && isInt d else decide (k = "pass") && isBand (.tuple (d :: ds))
  | _ => false
def isRate : PyData → Bool
  | .none => true
  | .int i => decide (2 ≤ i)
  | _ => false
def isFrame : PyData → Bool
  | .tuple [.list ss, _] => decide (1 ≤ ss.length) && decide (ss.length ≤ 8)
  | _ => false
/-- a look at one thing -/
def spLook (f : PyData → Bool) : Sp := fun vs H Q _ => ∃ x d, vs = [x] ∧ Dq H x d ∧ ∀ H', Ex H H' → Q (.bl (f d)) H'
theorem look_go {f : PyData → Bool} {x : V} {d : PyData} {H : Hp} {Q : VK} {E : XK} (h : Dq H x d) (k : ∀ H', Ex H H' → Q (.bl (f d)) H') : spLook f ([x] ++ []) H Q E := ⟨x, d, rfl, h, k⟩
section
variable {P : Program} {w : World} {K : PySem.W.Frag} {mg : Str → Option Value} {base : Heap}
abbrev s_is_integer : Stmt := top 20
theorem sc_is_integer : FnScope ["value"] ["value"] (defScope s_is_integer) := ⟨rfl, rfl, rfl, by decide +kernel, rfl, by decide +kernel, by decide +kernel⟩
theorem ok_is_integer {f : Addr} {fd : FuncData} (F : Fun K "is_integer" "is_integer" s_is_integer f fd) (m_isinstance : mg "isinstance" = none) (m_int : mg "int" = none) (m_bool : mg "bool" = none) :
    FnOk P w K mg base CX0 1 f fd ["value"] (spLook isInt) := by
  refine F.ok sc_is_integer (fun vs H Q E h => ?_) (fun cdv A outer s H vs Q E hr h => ?_)
  · obtain ⟨x, d, rfl, _⟩ := h
    rfl
  · obtain ⟨x, d, rfl, hd, k⟩ := h
    refine ⟨_, (pss_one (ps_ret (pe_and (pe_callB call_isi rfl m_isinstance (by decide +kernel) (pa_cons (pv 0) (pa_cons (pe_bltn (v := .ty "int") (u := .type "int") rfl m_int (by decide +kernel) rfl) pa_nil))) (pe_one (pe_not (pe_callB call_isi rfl m_isinstance (by decide +kernel) (pa_cons (pv 0) (pa_cons (pe_bltn (v := .ty "bool") (u := .type "bool") rfl m_bool (by decide +kernel) rfl) pa_nil)))))))), ?_⟩
    walk_at "rd"
    refine go_isi hd (kit_int d) ?_
    walk_at "rd"
    have two : isInt d = !pBool d → rIsi K [x, .ty "bool"] H fun v H' => ∃ c, v = .bl c ∧ Q (.bl (!c)) H' := fun e =>
      go_isi hd (kit_bool d) ⟨_, rfl, by rw [← e]; exact k H (Ex.refl H)⟩
    cases d with
    | int i =>
      refine iteT ?_
      walk_at "rd"
      exact two rfl
    | bool b =>
      refine iteT ?_
      walk_at "rd"
      exact two rfl
    | none => exact iteF (k _ (Ex.refl _))
    | str y => exact iteF (k _ (Ex.refl _))
    | list ds => exact iteF (k _ (Ex.refl _))
    | tuple ds => exact iteF (k _ (Ex.refl _))
    | dict ds => exact iteF (k _ (Ex.refl _))
abbrev s_is_natural : Stmt := top 21
theorem sc_is_natural : FnScope ["value"] ["value"] (defScope s_is_natural) := ⟨rfl, rfl, rfl, by decide +kernel, rfl, by decide +kernel, by decide +kernel⟩
theorem ok_is_natural {f : Addr} {fd : FuncData} (F : Fun K "is_natural" "is_natural" s_is_natural f fd) (h_is_integer : Has P w K mg base 1 "is_integer" (spLook isInt)) :
    FnOk P w K mg base CX0 2 f fd ["value"] (spLook isNat) := by
  refine F.ok sc_is_natural (fun vs H Q E h => ?_) (fun cdv A outer s H vs Q E hr h => ?_)
  · obtain ⟨x, d, rfl, _⟩ := h
    rfl
  · obtain ⟨x, d, rfl, hd, k⟩ := h
    refine ⟨_, (pss_one (ps_ret (pe_and (pe_hs h_is_integer hr rfl (pa_cons (pv 0) pa_nil)) (pe_one (pe_cmpR op_ge (pv 0) pe_int (nomark _)))))), ?_⟩
    walk_at "rd"
    refine look_go hd fun H1 e1 => ?_
    walk_at "rd"
    cases d with
    | int i =>
      cases hd
      refine iteT ?_
      walk_at "rd"
      exact k _ e1
    | bool b => exact iteF (k _ e1)
    | none => exact iteF (k _ e1)
    | str y => exact iteF (k _ e1)
    | list ds => exact iteF (k _ e1)
    | tuple ds => exact iteF (k _ e1)
    | dict ds => exact iteF (k _ e1)
theorem nat_int {d : PyData} (h : isNat d = true) : ∃ i : Int, d = .int i ∧ 0 ≤ i := by
  cases d <;> simp [isNat] at h
  exact ⟨_, rfl, h⟩
theorem dqa2 {H : Hp} {vs : List V} {ds : List PyData} (h : DqAll H vs ds) (hl : ds.length = 2) : ∃ a b d e, vs = [a, b] ∧ ds = [d, e] ∧ Dq H a d ∧ Dq H b e := by
  cases h with
  | nil => simp at hl
  | cons h1 h2 => cases h2 with
    | nil => simp at hl
    | cons h3 h4 => cases h4 with
      | nil => exact ⟨_, _, _, _, rfl, rfl, h1, h3⟩
      | cons _ _ => simp at hl
abbrev s_is_band : Stmt := top 22
theorem sc_is_band : FnScope ["value", "least", "greatest"] ["value"] (defScope s_is_band) := ⟨rfl, rfl, rfl, by decide +kernel, rfl, by decide +kernel, by decide +kernel⟩
theorem ok_is_band {f : Addr} {fd : FuncData} (F : Fun K "is_band" "is_band" s_is_band f fd) (m_isinstance : mg "isinstance" = none) (m_tuple : mg "tuple" = none) (m_len : mg "len" = none) (h_is_natural : Has P w K mg base 2 "is_natural" (spLook isNat)) :
    FnOk P w K mg base CX0 3 f fd ["value"] (spLook isBand) := by
  refine F.ok sc_is_band (fun vs H Q E h => ?_) (fun cdv A outer s H vs Q E hr h => ?_)
  · obtain ⟨x, d, rfl, _⟩ := h
    rfl
  · obtain ⟨x, d, rfl, hd, k⟩ := h
    refine ⟨_, (pss_cons (ps_if (PW.pt (pw_or (pt_not (pt_val (pe_callB call_isi rfl m_isinstance (by decide +kernel) (pa_cons (pv 0) (pa_cons (pe_bltn (v := .ty "tuple") (u := .type "tuple") rfl m_tuple (by decide +kernel) rfl) pa_nil))))) (pw_or1 (pt_cmpR op_ne (pe_callB call_lenQ rfl m_len PySem.boot_len (pa_cons (pv 0) pa_nil)) pe_int (nomark _)))))
  (pss_one (ps_ret pe_bl))
  pss_nil)
  (pss_cons (ps_asg (pv 0) (pg_tup (by rfl) (pgs_cons (pg_name (i := 1) sc_is_band.nd rfl (Or.inl rfl)) (pgs_cons (pg_name (i := 2) sc_is_band.nd rfl (Or.inl rfl)) pgs_nil))))
  (pss_one (ps_ret (pe_and (pe_hs h_is_natural hr rfl (pa_cons (pv 1) pa_nil)) (pe_and (pe_hs h_is_natural hr rfl (pa_cons (pv 2) pa_nil)) (pe_one (pe_cmpR op_le (pv 1) (pv 2) (nomark _))))))))), ?_⟩
    walk_at "rd"
    refine go_isi hd (kit_tuple d) ?_
    walk_at "rd"
    rcases tuple_or d with ⟨ds, rfl⟩ | hn
    · obtain ⟨a, xs, rfl, ha, hda⟩ := hd.tupleAt
      have hl := hda.len
      refine iteF ?_
      walk_at "rd"
      by_cases h2 : ds.length = 2
      · obtain ⟨b, c, d, e, rfl, rfl, hb, hc⟩ := dqa2 hda h2
        refine iteNS rfl ?_
        walk_at "rd"
        refine go_gtup (.inl ha) rfl ?_
        walk_at "rd"
        refine look_go hb fun H1 e1 => ?_
        walk_at "rd"
        cases hd1 : isNat d with
        | false =>
          refine iteF ?_
          have e : isBand (.tuple [d, e]) = false := by
            cases d <;> cases e <;> simp [isBand, isNat] at *
            omega
          rw [← e]
          exact k _ e1
        | true =>
          obtain ⟨i, rfl, hi⟩ := nat_int hd1
          refine iteT ?_
          walk_at "rd"
          refine look_go (hc.ex e1) fun H2 e2 => ?_
          walk_at "rd"
          cases hd2 : isNat e with
          | false =>
            refine iteF ?_
            have e : isBand (.tuple [.int i, e]) = false := by
              cases e <;> simp [isBand, isNat] at *
              omega
            rw [← e]
            exact k _ (e1.trans e2)
          | true =>
            obtain ⟨j, rfl, hj⟩ := nat_int hd2
            cases hb
            cases hc
            refine iteT ?_
            walk_at "rd"
            have e : isBand (.tuple [.int i, .int j]) = decide (i ≤ j) := by simp [isBand, hi, hj]
            rw [← e]
            exact k _ (e1.trans e2)
      · have hne : (!decide (V.int (xs.length : Int) = V.int 2)) = true := by
          simp
          omega
        rw [hne]
        refine iteT ?_
        walk_at "rd"
        have e : isBand (.tuple ds) = false := by
          match ds, h2 with
          | [], _ => rfl
          | [x], _ => cases x <;> rfl
          | [_, _], h => exact absurd rfl h
          | x :: y :: _ :: _, _ => cases x <;> first | rfl | (cases y <;> rfl)
        rw [← e]
        exact k _ (Ex.refl _)
    · rw [hn]
      refine iteT (iteT ?_)
      walk_at "rd"
      have e : isBand d = false := by cases d <;> first | rfl | simp [pTuple] at hn
      rw [← e]
      exact k _ (Ex.refl _)
abbrev s_is_rate : Stmt := top 23
theorem sc_is_rate : FnScope ["value"] ["value"] (defScope s_is_rate) := ⟨rfl, rfl, rfl, by decide +kernel, rfl, by decide +kernel, by decide +kernel⟩
theorem ok_is_rate {f : Addr} {fd : FuncData} {t : Tok} (F : Fun K "is_rate" "is_rate" s_is_rate f fd) (g_LEAST_RATE : mg "LEAST_RATE" = some (.int 2 t)) (h_is_integer : Has P w K mg base 1 "is_integer" (spLook isInt)) :
    FnOk P w K mg base CX0 2 f fd ["value"] (spLook isRate) := by
  refine F.ok sc_is_rate (fun vs H Q E h => ?_) (fun cdv A outer s H vs Q E hr h => ?_)
  · obtain ⟨x, d, rfl, _⟩ := h
    rfl
  · obtain ⟨x, d, rfl, hd, k⟩ := h
    refine ⟨_, (pss_one (ps_ret (pe_or (pe_cmpR op_isN1 (pv 0) pe_non (nomark _)) (pe_one (pe_and (pe_hs h_is_integer hr rfl (pa_cons (pv 0) pa_nil)) (pe_one (pe_cmpR op_ge (pv 0) (pe_glob (v := .int 2) rfl g_LEAST_RATE ⟨_, rfl⟩) (nomark _)))))))), ?_⟩
    walk_at "rd"
    cases hd with
    | non => exact iteT (k _ (Ex.refl _))
    | int i =>
      refine iteF ?_
      walk_at "rd"
      refine look_go (.int i) fun H1 e1 => ?_
      walk_at "rd"
      refine iteT ?_
      walk_at "rd"
      exact k _ e1
    | bl b =>
      refine iteF ?_
      walk_at "rd"
      refine look_go (.bl b) fun H1 e1 => ?_
      walk_at "rd"
      exact iteF (k _ e1)
    | str b =>
      refine iteF ?_
      walk_at "rd"
      refine look_go (.str b) fun H1 e1 => ?_
      walk_at "rd"
      exact iteF (k _ e1)
    | lst h1 h2 =>
      refine iteF ?_
      walk_at "rd"
      refine look_go (.lst h1 h2) fun H1 e1 => ?_
      walk_at "rd"
      exact iteF (k _ e1)
    | tup h1 h2 =>
      refine iteF ?_
      walk_at "rd"
      refine look_go (.tup h1 h2) fun H1 e1 => ?_
      walk_at "rd"
      exact iteF (k _ e1)
    | dic h1 =>
      refine iteF ?_
      walk_at "rd"
      refine look_go (.dic h1) fun H1 e1 => ?_
      walk_at "rd"
      exact iteF (k _ e1)
    | dic1 h1 =>
      refine iteF ?_
      walk_at "rd"
      refine look_go (.dic1 h1) fun H1 e1 => ?_
      walk_at "rd"
      exact iteF (k _ e1)
def spCheck (f : PyData → Bool) : Sp := fun vs H Q _ => ∃ x d, vs = [x] ∧ Dq H x d ∧ f d = true ∧ ∀ H', Ex H H' → Q .non H'
theorem check_go {f : PyData → Bool} {x : V} {d : PyData} {H : Hp} {Q : VK} {E : XK} (h : Dq H x d) (hf : f d = true) (k : ∀ H', Ex H H' → Q .non H') : spCheck f ([x] ++ []) H Q E := ⟨x, d, rfl, h, hf, k⟩
end
end Kx

set_option Elab.async false
set_option linter.all false
set_option maxRecDepth 100000
set_option maxHeartbeats 2000000
namespace Kx
open PySem PySem.Spec PyProof.Rows L2 HX TL
/-! ### words, as lists of code points -/
theorem le_line {n : Nat} (h : n ≤ 16000000) : n ≤ sizeLine := by rw [sizeLine_eq]; omega
theorem str_dash : (("-" : String) : Str) = ⟨#[45]⟩ := by decide +kernel
theorem str_slash : (("/" : String) : Str) = ⟨#[47]⟩ := by decide +kernel
theorem tl_cut1 (z : Str) : tl (L2.cutS z (some 1) none) = (tl z).drop 1 := by
  have hz := len_tl z
  show ((tl z).drop (HT.sIx z.length 0 (some 1))).take (HT.sIx z.length z.length none - HT.sIx z.length 0 (some 1)) = _
  have e1 : HT.sIx z.length z.length none = z.length := by simp [HT.sIx]
  rw [e1]
  by_cases h : 1 ≤ z.length
  · have e : HT.sIx z.length 0 (some 1) = 1 := by simp [HT.sIx]; omega
    rw [e]
    exact List.take_of_length_le (by rw [List.length_drop]; omega)
  · have e0 : tl z = [] := List.length_eq_zero_iff.mp (by omega)
    rw [e0]; simp
theorem tl_cut0 (z : Str) : tl (L2.cutS z none (some 1)) = (tl z).take 1 := by
  have hz := len_tl z
  show ((tl z).drop (HT.sIx z.length 0 none)).take (HT.sIx z.length z.length (some 1) - HT.sIx z.length 0 none) = _
  have e1 : HT.sIx z.length 0 none = 0 := by simp [HT.sIx]
  rw [e1, List.drop_zero]
  by_cases h : 1 ≤ z.length
  · have e : HT.sIx z.length z.length (some 1) = 1 := by simp [HT.sIx]; omega
    rw [e]
  · have e0 : tl z = [] := List.length_eq_zero_iff.mp (by omega)
    rw [e0]; simp
theorem starts1 (w : Str) (c : Nat) : Txt.startswith w ⟨#[c]⟩ = decide ((tl w).head? = some c) := by
  have hl := len_tl w
  unfold Txt.startswith
  rw [PySem.StrLaws.subAt_eq]
  show (decide (0 + 1 ≤ w.length) && (((tl w).drop 0).take 1 == [c])) = _
  cases h : tl w with
  | nil => rw [h] at hl; simp at hl; simp
  | cons d r =>
    rw [h] at hl
    simp at hl
    simp [hl]
    by_cases e : d = c <;> simp [e]
/-- the digits -/
def isDig (c : Nat) : Bool := decide (c ∈ tl (("0123456789" : String) : Str))
theorem isDig_iff (c : Nat) : isDig c = true ↔ 48 ≤ c ∧ c ≤ 57 := by
  have e : tl (("0123456789" : String) : Str) = [48, 49, 50, 51, 52, 53, 54, 55, 56, 57] := by decide +kernel
  unfold isDig
  rw [e, decide_eq_true_eq]
  simp only [List.mem_cons, List.not_mem_nil, or_false]
  omega
theorem all_dig {l : List Nat} (h : l.all isDig = true) : NumText.AllDigits l := fun c hc => (isDig_iff c).mp (List.all_eq_true.mp h c hc)
theorem dig_all {l : List Nat} (h : NumText.AllDigits l) : l.all isDig = true := List.all_eq_true.mpr fun c hc => (isDig_iff c).mpr (h c hc)
def neg (w : List Nat) : Bool := decide (w.head? = some 45)
def digs (w : List Nat) : List Nat := if neg w then w.drop 1 else w
def shaped (d : List Nat) : Bool := decide (1 ≤ d.length ∧ d.length ≤ 30) && d.all isDig
/-- a number as it is written -/
def readN (w : List Nat) : Option Int :=
  if shaped (digs w) then (if (digs w).head? = some 48 ∧ w ≠ [48] then none else some (if neg w then -((NumText.digitsVal (digs w) : Nat) : Int) else ((NumText.digitsVal (digs w) : Nat) : Int))) else none
def natN (w : List Nat) : Option Int := if neg w then none else readN w
theorem int_read {w : Str} (h : shaped (digs (tl w)) = true) : PySem.intText? w = some (if neg (tl w) then -((NumText.digitsVal (digs (tl w)) : Nat) : Int) else ((NumText.digitsVal (digs (tl w)) : Nat) : Int)) ∧ w.length ≤ 640 := by
  have hl := len_tl w
  unfold shaped at h
  rw [Bool.and_eq_true, decide_eq_true_eq] at h
  obtain ⟨⟨h1, h30⟩, h2⟩ := h
  have hd := all_dig h2
  have hne : digs (tl w) ≠ [] := fun z => by rw [z] at h1; simp at h1
  cases hn : neg (tl w) with
  | true =>
    have ed : digs (tl w) = (tl w).drop 1 := by unfold digs; rw [hn]; rfl
    rw [ed] at h1 h30 hd hne ⊢
    rw [if_pos rfl]
    cases e : tl w with
    | nil => rw [e] at h1; simp at h1
    | cons c cs =>
      rw [e] at h1 h30 hd hn hl hne
      simp only [List.drop_succ_cons, List.drop_zero, List.length_cons] at h1 h30 hd hl hne ⊢
      have ec : c = 45 := by simpa [neg] using hn
      subst ec
      exact ⟨intText_neg e hd hne (by omega), by omega⟩
  | false =>
    have ed : digs (tl w) = tl w := by unfold digs; rw [hn]; rfl
    rw [ed] at h1 h30 hd hne ⊢
    simp only [Bool.false_eq_true, if_false]
    exact ⟨intText_digits hd hne (by omega), by omega⟩
/-- a band as it is written -/
def bandN (w : List Nat) : Option (Int × Int) := match par [46, 46] [] w with
  | none => none
  | some (a, b) => match natN a, natN b with
    | some x, some y => if x ≤ y then some (x, y) else none
    | _, _ => none
theorem band_part (x : Str) : bandN (tl x) = (match natN (tl (Txt.partition x (Str.ofString "..")).1), natN (tl (Txt.partition x (Str.ofString "..")).2.2) with
    | some a, some b => if a ≤ b then some (a, b) else none
    | _, _ => none) := by
  have e : tl (Str.ofString "..") = [46, 46] := by decide +kernel
  rw [partition_par x _ (by rw [e]; simp), e]
  unfold bandN
  cases h : par [46, 46] [] (tl x) with
  | none =>
    show none = (match natN (tl x), natN (tl Str.empty) with | some a, some b => if a ≤ b then some (a, b) else none | _, _ => none)
    have : natN (tl Str.empty) = none := by decide +kernel
    rw [this]
    cases natN (tl x) <;> rfl
  | some p =>
    obtain ⟨a, b⟩ := p
    rfl
theorem natN_nil : natN [] = none := by decide
theorem natN_nonneg {w : List Nat} {x : Int} (h : natN w = some x) : 0 ≤ x := by
  unfold natN readN at h
  cases hn : neg w with
  | true => rw [hn] at h; simp at h
  | false =>
    rw [hn] at h
    simp only [Bool.false_eq_true, if_false] at h
    split at h
    · split at h
      · cases h
      · cases h; omega
    · cases h
theorem str_eq (a b : Str) : decide (V.str a = V.str b) = decide (tl a = tl b) := by
  by_cases h : a = b
  · subst h; simp
  · rw [decide_eq_false (fun z => h (V.str.inj z)), decide_eq_false (fun z => h (ext_tl z))]
theorem tl_1 (c : Nat) : tl (⟨#[c]⟩ : Str) = [c] := rfl
theorem tl_0 : tl (("0" : String) : Str) = [48] := by decide +kernel
theorem at0 {α : Type} (x : α) (l : List α) : atI (x :: l) 0 = some x := atI_nat (j := 0) rfl
end Kx

set_option Elab.async false
set_option linter.all false
set_option maxRecDepth 100000
set_option maxHeartbeats 2000000

namespace Kx
open PySem PySem.Spec PyProof.Rows L2 HX TL
open Evl (Ex)
local macro_rules | `(tactic| walk_at "len") => `(tactic| first | assumption | exact le_line (by assumption) | exact le_line (by omega) | exact le_line (Nat.le_trans (cutS_length _ _ _) (by omega)) | (rw [sizeLine_eq]; omega))
local macro_rules | `(tactic| walk_at "side") => `(tactic| first | assumption | ((try dsimp only); first | assumption | decide +kernel | omega | exact ⟨by decide, by decide⟩ | (left; decide) | (left; omega) | (refine Or.inl ⟨?_, ?_⟩ <;> omega) | (refine Or.inr ⟨?_, ?_⟩ <;> omega)))
local macro_rules | `(tactic| walk_at "heap") => `(tactic| first | assumption | exact upd_same | exact Or.inl (by assumption) | exact Or.inl upd_same)
local macro_rules | `(tactic| walk_at "item") => `(tactic| first | exact rfl | exact atI_nat (j := 0) rfl | exact atI_nat (j := 1) rfl | exact atI_nat (j := 2) rfl | assumption)
local macro_rules | `(tactic| walk_at "rd") => `(tactic| repeat (first
  | ((with_reducible refine' go_var ?hv ?_); (case hv => exact rfl))
  | with_reducible refine' go_c ?_
  | with_reducible refine' go_op ?_
  | with_reducible refine' go_seq ?_
  | with_reducible refine' go_asg ?_
  | with_reducible refine' go_name ?_
  | with_reducible refine' go_cons ?_
  | with_reducible refine' go_nil ?_
  | with_reducible refine' go_cb ?_
  | with_reducible refine' go_call ?_
  | with_reducible refine' go_ifS ?_
  | with_reducible refine' go_test ?_
  | with_reducible refine' go_bl ?_
  | with_reducible refine' go_ret ?_
  | with_reducible refine' go_I0 ?_
  | ((with_reducible refine' go_I ?cc ?_); (case cc => walk_at "side"))
  | ((with_reducible refine' go_ixL ?hh ?hk ?_); (case hh => walk_at "heap"); (case hk => walk_at "item"))
  | ((with_reducible refine' go_ixT ?hh ?hk ?_); (case hh => walk_at "heap"); (case hk => walk_at "item"))
  | ((with_reducible refine' go_lenL ?hh ?_); (case hh => walk_at "heap"))
  | ((with_reducible refine' go_lenT ?hh ?_); (case hh => walk_at "heap"))
  | ((with_reducible refine' go_setL ?hh ?hk ?_); (case hh => walk_at "heap"); (case hk => walk_at "item"))
  | with_reducible refine' go_abs ?_
  | with_reducible refine' go_max ?_
  | with_reducible refine' go_min ?_
  | with_reducible refine' go_int ?_
  | with_reducible refine' go_intB ?_
  | (with_reducible refine' go_eq rfl ?_)
  | (with_reducible refine' go_ne rfl ?_)
  | with_reducible refine' go_isN ?_
  | with_reducible refine' go_notN ?_
  | with_reducible refine' go_if ?_
  | with_reducible refine' go_sub ?_
  | with_reducible refine' go_par ?_
  | with_reducible refine' go_sl ?_
  | with_reducible refine' go_part ?_
  | with_reducible refine' go_pint ?_
  | with_reducible refine' go_nopart ?_
  | ((with_reducible refine' go_lenL ?hh ?_); (case hh => walk_at "heap"))
  | ((with_reducible refine' go_lenT ?hh ?_); (case hh => walk_at "heap"))
  | ((with_reducible refine' go_lenS ?hh ?_); (case hh => assumption))
  | with_reducible refine' go_gcons ?_
  | with_reducible refine' go_gnil ?_
  | with_reducible refine' go_kw ?_
  | with_reducible refine' go_par2 ?_
  | with_reducible refine' go_next ?_
  | with_reducible refine' go_drop ?_
  | with_reducible refine' go_and ?_
  | with_reducible refine' go_or ?_
  | with_reducible refine' go_not ?_
  | with_reducible refine' go_B ?_
  | with_reducible refine' go_andV ?_
  | with_reducible refine' go_orV ?_
  | with_reducible refine' go_notV ?_
  | with_reducible refine' go_chain ?_
  | with_reducible refine' go_un ?_
  | with_reducible refine' go_U ?_
  | with_reducible refine' go_bm ?_
  | with_reducible refine' go_tup ?_
  | with_reducible refine' go_lst ?_
  | with_reducible refine' go_forR1 ?_
  | with_reducible refine' go_forR2 ?_
  | with_reducible refine' go_forL ?_
  | with_reducible refine' go_forT ?_
  | with_reducible refine' go_forE ?_
  | with_reducible refine' go_lcR1 ?_
  | with_reducible refine' go_lcL ?_
  | with_reducible refine' go_lcT ?_
  | ((with_reducible refine' go_tyL ?hh ?_); (case hh => walk_at "heap"))
  | ((with_reducible refine' go_new ?hz ?_); (case hz => exact Nat.le_of_ble_eq_true rfl))
  | with_reducible refine' go_par3 ?_
  | with_reducible refine' go_three ?_
  | with_reducible refine' go_m1 ?_
  | with_reducible refine' go_isS ?_
  | with_reducible refine' go_rSw ?_
  | with_reducible refine' go_rFnd ?_
  | ((with_reducible refine' go_rPrt (by decide +kernel) ?hz ?_); (case hz => walk_at "len"))
  | ((with_reducible refine' go_rSpl (by decide +kernel) ?hz ?_); (case hz => walk_at "len"))
  | ((with_reducible refine' go_rLenS ?hz ?_); (case hz => walk_at "len"))
  | ((with_reducible refine' go_slS ?hz ?_); (case hz => walk_at "len"))
  | with_reducible refine' go_sgn ?_
  | with_reducible refine' go_nsg ?_
  | with_reducible refine' go_lcS ?_
  | (with_reducible refine' ⟨_, rfl, ?_⟩)
  ))
--MACEND
theorem go_yes {σ : L2.St} {H : Hp} {QT : Bool → Hp → Prop} (h : QT true H) : tYes σ H QT := h
def optV : Option Int → V
  | none => .non
  | some n => .int n
def optD : Option Int → PyData
  | none => .none
  | some n => .int n
theorem dq_opt (H : Hp) : ∀ a : Option Int, Dq H (optV a) (optD a)
  | none => .non
  | some n => .int n
def spNum (g : List Nat → Option Int) : Sp := fun vs H Q _ => ∃ w : Str, vs = [.str w] ∧ w.length ≤ 16000000 ∧ ∀ H', Ex H H' → Q (optV (g (tl w))) H'
def bandD : Int × Int → PyData := fun b => .tuple [.int b.1, .int b.2]
def spBandN : Sp := fun vs H Q _ => ∃ w : Str, vs = [.str w] ∧ w.length ≤ 16000000 ∧ (bandN (tl w) = none → ∀ H', Ex H H' → Q .non H') ∧ ∀ b, bandN (tl w) = some b → ∀ p H', Ex H H' → H' p = some (.tup [.int b.1, .int b.2]) → Q (.ref p) H'
section
variable {P : Program} {w : World} {K : PySem.W.Frag} {mg : Str → Option Value} {base : Heap} {tD tM : Tok}
abbrev s_read_number : Stmt := top 27
theorem sc_read_number : FnScope ["word", "digits", "sign"] ["word"] (defScope s_read_number) := ⟨rfl, rfl, rfl, by decide +kernel, rfl, by decide +kernel, by decide +kernel⟩
theorem ok_read_number {f : Addr} {fd : FuncData} (F : Fun K "read_number" "read_number" s_read_number f fd) (m_len : mg "len" = none) (m_all : mg "all" = none) (m_int : mg "int" = none)
    (g_DIGITS : mg "DIGITS" = some (.str "0123456789" tD)) (g_MOST_DIGITS : mg "MOST_DIGITS" = some (.int 30 tM)) : FnOk P w K mg base CX0 1 f fd ["word"] (spNum readN) := by
  refine F.ok sc_read_number (fun vs H Q E h => ?_) (fun cdv A outer s H vs Q E hr h => ?_)
  · obtain ⟨x, rfl, _⟩ := h
    rfl
  · obtain ⟨x, rfl, hx, k⟩ := h
    refine ⟨_, (pss_cons (ps_set (i := 1) sc_read_number.nd rfl (Or.inl rfl) (pe_ifExp (pt_val (pe_m1 PySem.F.slot_str_startswith PySem.F.type_str_startswith mt_sw (pv 0) pe_str)) (pe_slice sl_str (pv 0) (po_some pe_int) po_none) (pv 0)))
  (pss_cons (ps_if (PW.pt (pw_or (pt_not (pt_chain op_le op_le pe_int (pe_callB call_lenS rfl m_len PySem.boot_len (pa_cons (pv 1) pa_nil)) (pe_glob (v := .int 30) rfl g_MOST_DIGITS ⟨_, rfl⟩))) (pw_or1 (pt_not (pt_val (pe_callB (call_allB rfl) rfl m_all (by decide +kernel) (pa_cons (pe_lc (own := [("sign", 2)]) (g := gName 2) (by rfl) (sc_read_number).nd (pi_str (pv 1)) (blkOk_by (own := [("sign", 2)]) (N := ["word", "digits", "sign"]) (sc := defScope s_read_number) (by decide +kernel)) (fun _ _ _ _ _ => pg_name (i := 2) (sc_read_number).nd rfl (Or.inl rfl)) (fun _ _ _ _ _ => pts_nil) (fun _ _ _ _ _ => (pe_cmpR op_sgn (pv 2) (pe_glob (v := .str "0123456789") rfl g_DIGITS ⟨_, rfl⟩) (by with_unfolding_all rfl)))) pa_nil)))))))
  (pss_one (ps_ret pe_non))
  pss_nil)
  (pss_cons (ps_if (PW.pt (pw_and (pt_cmpR op_eq (pe_ix ix_str (pv 1) pe_int (fun _ _ => rfl)) pe_str (nomark _)) (pw_and1 (pt_cmpR op_ne (pv 0) pe_str (nomark _)))))
  (pss_one (ps_ret pe_non))
  pss_nil)
  (pss_one (ps_ret (pe_callTy call_intS rfl m_int boot_int (pa_cons (pv 0) pa_nil))))))), ?_⟩
    refine go_seq ?_
    refine go_asg ?_
    refine cut_e (te := tIf _ _ _) (fun v H' => ∃ d : Str, v = .str d ∧ H' = H ∧ tl d = digs (tl x) ∧ d.length ≤ 16000000) (fun Q' q => ?_) ?_
    · walk_at "rd"
      rw [str_dash, starts1]
      refine ite2 (fun c => ?_) (fun c => ?_)
      · walk_at "rd"
        exact q _ _ ⟨_, rfl, rfl, by rw [tl_cut1]; unfold digs neg; rw [if_pos c], Nat.le_trans (cutS_length _ _ _) hx⟩
      · walk_at "rd"
        exact q _ _ ⟨x, rfl, rfl, by unfold digs neg; rw [if_neg c], hx⟩
    · rintro v H' ⟨d, rfl, rfl, hd, hdl⟩
      have hld := len_tl d
      have hlen := len_tl d
      rw [hd] at hlen
      have none_ : shaped (digs (tl x)) = false → ∀ H'', Ex H' H'' → Q .non H'' := fun e H'' e' => by
        have := k H'' e'
        unfold readN at this
        rw [e] at this
        exact this
      walk_at "rd"
      refine ite2 (fun c1 => ?_) (fun c1 => ?_)
      · have h1 : 1 ≤ (digs (tl x)).length := by have := of_decide_eq_true c1; omega
        walk_at "rd"
        refine ite2 (fun c2 => ?_) (fun c2 => ?_)
        · have h30 : ¬ (digs (tl x)).length ≤ 30 := by simp at c2; omega
          refine iteT ?_
          walk_at "rd"
          exact none_ (by unfold shaped; rw [decide_eq_false (fun z => h30 z.2)]; rfl) _ (Ex.refl _)
        · have h30 : (digs (tl x)).length ≤ 30 := by simp at c2; omega
          walk_at "rd"
          refine run_lcS (fun D i G => H' D = none ∧ Ex H' G ∧ G D = some (.lst (((tl d).take i).map fun c => V.bl (isDig c)))) ?_ ?_ ?_
          · intro D hD
            exact ⟨hD, Ex.new hD, upd_same⟩
          · rintro D i c G hc ⟨hD, e, hG⟩
            walk_at "rd"
            refine ⟨rfl, ?_⟩
            refine go_yes ?_
            refine iteT ?_
            walk_at "rd"
            refine ⟨_, hG, ?_, hD, Ex.mut e hD, ?_⟩
            · rw [List.length_map, List.length_take, sizeLine_eq]; omega
            · rw [List.take_succ, hc, List.map_append]
              exact upd_same
          · rintro D G hD ⟨_, e, hG⟩
            rw [List.take_length] at hG
            walk_at "rd"
            refine go_rAllB (bs := (tl d).map isDig) (.inl (by rw [hG, List.map_map]; rfl)) ?_
            rw [List.all_map, show (id ∘ isDig) = isDig from rfl, hd]
            walk_at "rd"
            refine ite2 (fun c3 => ?_) (fun c3 => ?_)
            · walk_at "rd"
              exact none_ (by unfold shaped; rw [show (digs (tl x)).all isDig = false from by simpa using c3, Bool.and_false]) _ e
            · have h3 : (digs (tl x)).all isDig = true := by simpa using c3
              have sh : shaped (digs (tl x)) = true := by unfold shaped; rw [h3, decide_eq_true ⟨h1, h30⟩]; rfl
              obtain ⟨hi, h640⟩ := int_read sh
              have kk := k G e
              unfold readN at kk
              rw [sh, if_pos rfl] at kk
              walk_at "rd"
              obtain ⟨c0, r0, e0⟩ : ∃ c r, digs (tl x) = c :: r := by
                cases q : digs (tl x) with
                | nil => rw [q] at h1; simp at h1
                | cons c r => exact ⟨c, r, rfl⟩
              refine go_ixS (le_line hdl) (c := c0) (by rw [show d.cps.toList = c0 :: r0 from hd.trans e0]; exact at0 _ _) ?_
              walk_at "rd"
              have last : ¬ ((digs (tl x)).head? = some 48 ∧ tl x ≠ [48]) → Q (.int (if neg (tl x) = true then -((NumText.digitsVal (digs (tl x)) : Nat) : Int) else ((NumText.digitsVal (digs (tl x)) : Nat) : Int))) G := fun n => by
                rw [if_neg n] at kk
                exact kk
              refine ite2 (fun c4 => ?_) (fun c4 => ?_)
              · rw [str_eq, tl_1, tl_0] at c4
                have e48 : c0 = 48 := by simpa using c4
                walk_at "rd"
                rw [str_eq, tl_0]
                refine ite2 (fun c5 => ?_) (fun c5 => ?_)
                · walk_at "rd"
                  rw [if_pos ⟨by rw [e0, e48]; rfl, by simpa using c5⟩] at kk
                  exact kk
                · walk_at "rd"
                  refine go_rIntS hi h640 ?_
                  exact last (fun z => c5 (by simpa using z.2))
              · rw [str_eq, tl_1, tl_0] at c4
                refine iteF ?_
                walk_at "rd"
                refine go_rIntS hi h640 ?_
                exact last (fun z => c4 (by rw [e0] at z; simpa using z.1))
      · have h1 : ¬ 1 ≤ (digs (tl x)).length := fun z => c1 (by simp; omega)
        walk_at "rd"
        refine iteT ?_
        refine iteT ?_
        walk_at "rd"
        exact none_ (by unfold shaped; rw [decide_eq_false (fun z => h1 z.1)]; rfl) _ (Ex.refl _)
abbrev s_read_natural : Stmt := top 28
theorem sc_read_natural : FnScope ["word"] ["word"] (defScope s_read_natural) := ⟨rfl, rfl, rfl, by decide +kernel, rfl, by decide +kernel, by decide +kernel⟩
theorem ok_read_natural {f : Addr} {fd : FuncData} (F : Fun K "read_natural" "read_natural" s_read_natural f fd) (h_read_number : Has P w K mg base 1 "read_number" (spNum readN)) : FnOk P w K mg base CX0 2 f fd ["word"] (spNum natN) := by
  refine F.ok sc_read_natural (fun vs H Q E h => ?_) (fun cdv A outer s H vs Q E hr h => ?_)
  · obtain ⟨x, rfl, _⟩ := h
    rfl
  · obtain ⟨x, rfl, hx, k⟩ := h
    refine ⟨_, (pss_one (ps_ret (pe_ifExp (pt_val (pe_m1 PySem.F.slot_str_startswith PySem.F.type_str_startswith mt_sw (pv 0) pe_str)) pe_non (pe_hs h_read_number hr rfl (pa_cons (pv 0) pa_nil))))), ?_⟩
    walk_at "rd"
    rw [str_dash, starts1]
    refine ite2 (fun c => ?_) (fun c => ?_)
    · have := k H (Ex.refl _)
      unfold natN neg at this
      rw [c, if_pos rfl] at this
      walk_at "rd"
      exact this
    · walk_at "rd"
      refine ⟨x, rfl, hx, fun H1 e1 => ?_⟩
      have := k H1 e1
      unfold natN neg at this
      rw [if_neg c] at this
      exact this
abbrev s_read_band : Stmt := top 29
theorem sc_read_band : FnScope ["word", "least", "_", "greatest", "band"] ["word"] (defScope s_read_band) := ⟨rfl, rfl, rfl, by decide +kernel, rfl, by decide +kernel, by decide +kernel⟩
theorem ok_read_band {f : Addr} {fd : FuncData} (F : Fun K "read_band" "read_band" s_read_band f fd) (h_read_natural : Has P w K mg base 2 "read_natural" (spNum natN)) (h_is_band : Has P w K mg base 3 "is_band" (spLook isBand)) : FnOk P w K mg base CX0 4 f fd ["word"] spBandN := by
  refine F.ok sc_read_band (fun vs H Q E h => ?_) (fun cdv A outer s H vs Q E hr h => ?_)
  · obtain ⟨x, rfl, _⟩ := h
    rfl
  · obtain ⟨x, rfl, hx, k0, k1⟩ := h
    refine ⟨_, (pss_cons (ps_asg (pe_m1 PySem.F.slot_str_partition PySem.F.type_str_partition mt_prt (pv 0) pe_str) (pg_tup (by rfl) (pgs_cons (pg_name (i := 1) sc_read_band.nd rfl (Or.inl rfl)) (pgs_cons (pg_name (i := 2) sc_read_band.nd rfl (Or.inl rfl)) (pgs_cons (pg_name (i := 3) sc_read_band.nd rfl (Or.inl rfl)) pgs_nil)))))
  (pss_cons (ps_set (i := 4) sc_read_band.nd rfl (Or.inl rfl) (pe_tup (pa_cons (pe_hs h_read_natural hr rfl (pa_cons (pv 1) pa_nil)) (pa_cons (pe_hs h_read_natural hr rfl (pa_cons (pv 3) pa_nil)) pa_nil))))
  (pss_one (ps_ret (pe_ifExp (pt_val (pe_hs h_is_band hr rfl (pa_cons (pv 4) pa_nil))) (pv 4) pe_non))))), ?_⟩
    walk_at "rd"
    intro p hp
    refine go_gtup (.inl (.inl upd_same)) rfl ?_
    walk_at "rd"
    have e0 := Ex.new (o := HO.tup [V.str (Txt.partition x (Str.ofString "..")).1, .str (Txt.partition x (Str.ofString "..")).2.1, .str (Txt.partition x (Str.ofString "..")).2.2]) hp
    obtain ⟨l1, _, l3⟩ := fact_partition x (Str.ofString "..")
    refine ⟨_, rfl, Nat.le_trans l1 hx, fun H1 e1 => ?_⟩
    walk_at "rd"
    refine ⟨_, rfl, Nat.le_trans l3 hx, fun H2 e2 => ?_⟩
    walk_at "rd"
    intro q hq
    walk_at "rd"
    generalize ea : natN (tl (Txt.partition x (Str.ofString "..")).1) = a at *
    generalize eb : natN (tl (Txt.partition x (Str.ofString "..")).2.2) = b at *
    have eB := band_part x
    rw [ea, eb] at eB
    have e3 := (e0.trans e1).trans e2
    have e4 := e3.trans (Ex.new (o := HO.tup [optV a, optV b]) hq)
    refine look_go (d := .tuple [optD a, optD b]) (.tup (.inl upd_same) (.cons (dq_opt _ a) (.cons (dq_opt _ b) .nil))) fun H3 e5 => ?_
    have e6 := e4.trans e5
    have hq3 := e5 _ _ (upd_same (H := H2) (a := q) (o := HO.tup [optV a, optV b]))
    walk_at "rd"
    cases a with
    | none =>
      refine ite2 (fun c => absurd c (by simp [isBand, optD, isNat])) (fun _ => ?_)
      walk_at "rd"
      exact k0 eB _ e6
    | some i =>
      cases b with
      | none =>
        refine ite2 (fun c => absurd c (by simp [isBand, optD, isNat])) (fun _ => ?_)
        walk_at "rd"
        exact k0 eB _ e6
      | some j =>
        have i0 := natN_nonneg ea
        have j0 := natN_nonneg eb
        dsimp only at eB
        refine ite2 (fun c => ?_) (fun c => ?_)
        · have hij : i ≤ j := by
            simp [isBand, optD, isNat] at c
            omega
          rw [if_pos hij] at eB
          walk_at "rd"
          exact k1 _ eB q H3 e6 hq3
        · have hij : ¬ i ≤ j := fun z => c (by simp [isBand, optD, isNat]; omega)
          rw [if_neg hij] at eB
          walk_at "rd"
          exact k0 eB _ e6
end
end Kx

set_option Elab.async false
set_option linter.all false
set_option maxRecDepth 100000
set_option maxHeartbeats 2000000

namespace Kx
open PySem PySem.Spec PyProof.Rows L2 HX TL
open Evl (Ex)
local macro_rules | `(tactic| walk_at "len") => `(tactic| first | assumption | exact le_line (by assumption) | exact le_line (by omega) | exact le_line (Nat.le_trans (cutS_length _ _ _) (by omega)) | (rw [sizeLine_eq]; omega))
local macro_rules | `(tactic| walk_at "side") => `(tactic| first | assumption | ((try dsimp only); first | assumption | decide +kernel | omega | exact ⟨by decide, by decide⟩ | (left; decide) | (left; omega) | (refine Or.inl ⟨?_, ?_⟩ <;> omega) | (refine Or.inr ⟨?_, ?_⟩ <;> omega)))
local macro_rules | `(tactic| walk_at "heap") => `(tactic| first | assumption | exact upd_same | exact Or.inl (by assumption) | exact Or.inl upd_same)
local macro_rules | `(tactic| walk_at "item") => `(tactic| first | exact rfl | exact atI_nat (j := 0) rfl | exact atI_nat (j := 1) rfl | exact atI_nat (j := 2) rfl | assumption)
local macro_rules | `(tactic| walk_at "rd") => `(tactic| repeat (first
  | ((with_reducible refine' go_var ?hv ?_); (case hv => exact rfl))
  | with_reducible refine' go_c ?_
  | with_reducible refine' go_op ?_
  | with_reducible refine' go_seq ?_
  | with_reducible refine' go_asg ?_
  | with_reducible refine' go_name ?_
  | with_reducible refine' go_cons ?_
  | with_reducible refine' go_nil ?_
  | with_reducible refine' go_cb ?_
  | with_reducible refine' go_call ?_
  | with_reducible refine' go_ifS ?_
  | with_reducible refine' go_test ?_
  | with_reducible refine' go_bl ?_
  | with_reducible refine' go_ret ?_
  | with_reducible refine' go_I0 ?_
  | ((with_reducible refine' go_I ?cc ?_); (case cc => walk_at "side"))
  | ((with_reducible refine' go_ixL ?hh ?hk ?_); (case hh => walk_at "heap"); (case hk => walk_at "item"))
  | ((with_reducible refine' go_ixT ?hh ?hk ?_); (case hh => walk_at "heap"); (case hk => walk_at "item"))
  | ((with_reducible refine' go_lenL ?hh ?_); (case hh => walk_at "heap"))
  | ((with_reducible refine' go_lenT ?hh ?_); (case hh => walk_at "heap"))
  | ((with_reducible refine' go_setL ?hh ?hk ?_); (case hh => walk_at "heap"); (case hk => walk_at "item"))
  | with_reducible refine' go_abs ?_
  | with_reducible refine' go_max ?_
  | with_reducible refine' go_min ?_
  | with_reducible refine' go_int ?_
  | with_reducible refine' go_intB ?_
  | (with_reducible refine' go_eq rfl ?_)
  | (with_reducible refine' go_ne rfl ?_)
  | with_reducible refine' go_isN ?_
  | with_reducible refine' go_notN ?_
  | with_reducible refine' go_if ?_
  | with_reducible refine' go_sub ?_
  | with_reducible refine' go_par ?_
  | with_reducible refine' go_sl ?_
  | with_reducible refine' go_part ?_
  | with_reducible refine' go_pint ?_
  | with_reducible refine' go_nopart ?_
  | ((with_reducible refine' go_lenL ?hh ?_); (case hh => walk_at "heap"))
  | ((with_reducible refine' go_lenT ?hh ?_); (case hh => walk_at "heap"))
  | ((with_reducible refine' go_lenS ?hh ?_); (case hh => assumption))
  | with_reducible refine' go_gcons ?_
  | with_reducible refine' go_gnil ?_
  | with_reducible refine' go_kw ?_
  | with_reducible refine' go_par2 ?_
  | with_reducible refine' go_next ?_
  | with_reducible refine' go_drop ?_
  | with_reducible refine' go_and ?_
  | with_reducible refine' go_or ?_
  | with_reducible refine' go_not ?_
  | with_reducible refine' go_B ?_
  | with_reducible refine' go_andV ?_
  | with_reducible refine' go_orV ?_
  | with_reducible refine' go_notV ?_
  | with_reducible refine' go_chain ?_
  | with_reducible refine' go_un ?_
  | with_reducible refine' go_U ?_
  | with_reducible refine' go_bm ?_
  | with_reducible refine' go_tup ?_
  | with_reducible refine' go_lst ?_
  | with_reducible refine' go_forR1 ?_
  | with_reducible refine' go_forR2 ?_
  | with_reducible refine' go_forL ?_
  | with_reducible refine' go_forT ?_
  | with_reducible refine' go_forE ?_
  | with_reducible refine' go_lcR1 ?_
  | with_reducible refine' go_lcL ?_
  | with_reducible refine' go_lcT ?_
  | ((with_reducible refine' go_tyL ?hh ?_); (case hh => walk_at "heap"))
  | ((with_reducible refine' go_new ?hz ?_); (case hz => exact Nat.le_of_ble_eq_true rfl))
  | with_reducible refine' go_par3 ?_
  | with_reducible refine' go_three ?_
  | with_reducible refine' go_m1 ?_
  | with_reducible refine' go_isS ?_
  | with_reducible refine' go_rSw ?_
  | with_reducible refine' go_rFnd ?_
  | ((with_reducible refine' go_rPrt (by decide +kernel) ?hz ?_); (case hz => walk_at "len"))
  | ((with_reducible refine' go_rSpl (by decide +kernel) ?hz ?_); (case hz => walk_at "len"))
  | ((with_reducible refine' go_rLenS ?hz ?_); (case hz => walk_at "len"))
  | ((with_reducible refine' go_slS ?hz ?_); (case hz => walk_at "len"))
  | with_reducible refine' go_sgn ?_
  | with_reducible refine' go_nsg ?_
  | with_reducible refine' go_lcS ?_
  | (with_reducible refine' ⟨_, rfl, ?_⟩)
  ))
--MACEND
/-- a stage as it is written -/
def stgN : List Nat → Option Stg
  | 112 :: r => (bandN r).map fun b => .pass b.1 b.2
  | 109 :: r => (natN r).map .mix
  | 100 :: r => (readN r).map .dial
  | _ => none
def ge2 : Option Int → Option Int
  | some i => if 2 ≤ i then some i else none
  | none => none
def rateN (w : List Nat) : Option Int := ge2 (if w.head? = some 47 then natN (w.drop 1) else none)
structure Lk where
  dial : Int
  band : Option (Int × Int)
def Lk.vals (l : Lk) : List V := match l.band with
  | none => [.int l.dial, .non, .non]
  | some b => [.int l.dial, .int b.1, .int b.2]
def Lk.d (l : Lk) : PyData := match l.band with
  | none => .tuple [.int l.dial, .none, .none]
  | some b => .tuple [.int l.dial, .int b.1, .int b.2]
def cutEq (w : List Nat) : List Nat × List Nat := match par [61] [] w with
  | some p => p
  | none => (w, [])
def lookN (w : List Nat) : Option Lk := match readN (cutEq w).1 with
  | none => none
  | some d => if (cutEq w).2 = [45] then some ⟨d, none⟩ else (bandN (cutEq w).2).map fun b => ⟨d, some b⟩
def spStgN : Sp := fun vs H Q _ => ∃ w : Str, vs = [.str w] ∧ w.length ≤ 16000000 ∧ (stgN (tl w) = none → ∀ H', Ex H H' → Q .non H') ∧ ∀ s, stgN (tl w) = some s → ∀ p H', Ex H H' → H p = none → H' p = some (.tup s.vals) → Q (.ref p) H'
def spLkN : Sp := fun vs H Q _ => ∃ w : Str, vs = [.str w] ∧ w.length ≤ 16000000 ∧ (lookN (tl w) = none → ∀ H', Ex H H' → Q .non H') ∧ ∀ l, lookN (tl w) = some l → ∀ p H', Ex H H' → H p = none → H' p = some (.tup l.vals) → Q (.ref p) H'
def mayF (ss : List Stg) (s : Stg) : Bool := decide (ss.length < 8) && (!s.isDial || decide (dials ss = 0))
def spDialP : Sp := fun vs H Q _ => ∃ x ss, vs = [x] ∧ Dq H x (.list (ss.map Stg.d)) ∧ ∀ v H', Ex H H' → (v = .non ↔ dials ss = 0) → (∀ i : Int, v = .int i ∨ True) → scal v .non = true → Q v H'
def spMayF : Sp := fun vs H Q _ => ∃ x y ss s, vs = [x, y] ∧ Dq H x (.list (ss.map Stg.d)) ∧ Dq H y s.d ∧ ∀ H', Ex H H' → Q (.bl (mayF ss s)) H'
theorem tup_eq (H : Hp) (v : V) : True := trivial
section
variable {P : Program} {w : World} {K : PySem.W.Frag} {mg : Str → Option Value} {base : Heap} {tD tM tS tL : Tok}
abbrev s__read_stage : Stmt := top 34
theorem sc__read_stage : FnScope ["word", "kind", "rest", "band", "lo", "add"] ["word"] (defScope s__read_stage) := ⟨rfl, rfl, rfl, by decide +kernel, rfl, by decide +kernel, by decide +kernel⟩
theorem ok_read_stage {f : Addr} {fd : FuncData} (F : Fun K "_read_stage" "_read_stage" s__read_stage f fd) (h_read_number : Has P w K mg base 1 "read_number" (spNum readN)) (h_read_natural : Has P w K mg base 2 "read_natural" (spNum natN)) (h_read_band : Has P w K mg base 4 "read_band" spBandN) :
    FnOk P w K mg base CX0 5 f fd ["word"] spStgN := by
  refine F.ok sc__read_stage (fun vs H Q E h => ?_) (fun cdv A outer s H vs Q E hr h => ?_)
  · obtain ⟨x, rfl, _⟩ := h
    rfl
  · obtain ⟨x, rfl, hx, k0, k1⟩ := h
    refine ⟨_, (pss_cons (ps_par (i := 1) (j := 2) (by rfl) sc__read_stage.nd rfl rfl (by decide) rfl rfl (pa_cons (pe_slice sl_str (pv 0) po_none (po_some pe_int)) (pa_cons (pe_slice sl_str (pv 0) (po_some pe_int) po_none) pa_nil)) (by rfl))
  (pss_cons (ps_if (pt_cmpR op_eq (pv 1) pe_str (nomark _))
  (pss_cons (ps_set (i := 3) sc__read_stage.nd rfl (Or.inl rfl) (pe_hs h_read_band hr rfl (pa_cons (pv 2) pa_nil)))
  (pss_one (ps_ret (pe_ifExp (pt_cmpR op_isN1 (pv 3) pe_non (nomark _)) pe_non (pe_tup (pa_cons pe_str (pa_cons (pe_ix ix_tup (pv 3) pe_int (fun _ _ => rfl)) (pa_cons (pe_ix ix_tup (pv 3) pe_int (fun _ _ => rfl)) pa_nil))))))))
  pss_nil)
  (pss_cons (ps_if (pt_cmpR op_eq (pv 1) pe_str (nomark _))
  (pss_cons (ps_set (i := 4) sc__read_stage.nd rfl (Or.inl rfl) (pe_hs h_read_natural hr rfl (pa_cons (pv 2) pa_nil)))
  (pss_one (ps_ret (pe_ifExp (pt_cmpR op_isN1 (pv 4) pe_non (nomark _)) pe_non (pe_tup (pa_cons pe_str (pa_cons (pv 4) pa_nil)))))))
  pss_nil)
  (pss_cons (ps_set (i := 5) sc__read_stage.nd rfl (Or.inl rfl) (pe_ifExp (pt_cmpR op_eq (pv 1) pe_str (nomark _)) (pe_hs h_read_number hr rfl (pa_cons (pv 2) pa_nil)) pe_non))
  (pss_one (ps_ret (pe_ifExp (pt_cmpR op_isN1 (pv 5) pe_non (nomark _)) pe_non (pe_tup (pa_cons pe_str (pa_cons (pv 5) pa_nil)))))))))), ?_⟩
    walk_at "rd"
    have hk : ∀ c : Nat, decide (V.str (L2.cutS x none (some 1)) = V.str ⟨#[c]⟩) = decide ((tl x).head? = some c) := fun c => by
      rw [str_eq, tl_cut0, tl_1]
      cases tl x with
      | nil => simp
      | cons a l => simp
    have hr1 : tl (L2.cutS x (some 1) none) = (tl x).drop 1 := tl_cut1 x
    have hrl : (L2.cutS x (some 1) none).length ≤ 16000000 := Nat.le_trans (cutS_length _ _ _) hx
    generalize L2.cutS x (some 1) none = r at *
    rw [show (("p" : String) : Str) = ⟨#[112]⟩ from by decide +kernel, hk]
    refine ite2 (fun c => ?_) (fun c => ?_)
    · obtain ⟨l, hl⟩ : ∃ l, tl x = 112 :: l := by
        cases q : tl x with
        | nil => rw [q] at c; simp at c
        | cons a l => rw [q] at c; simp at c; exact ⟨l, by rw [c]⟩
      rw [hl] at k0 k1 hr1
      walk_at "rd"
      refine ⟨r, rfl, hrl, fun hb H1 e1 => ?_, fun b hb q H1 e1 hq => ?_⟩
      · walk_at "rd"
        refine ite2 (fun _ => ?_) (fun c => absurd (by simp) c)
        walk_at "rd"
        refine k0 ?_ _ e1
        show (bandN l).map _ = none
        rw [show l = tl r from hr1.symm, hb]; rfl
      · walk_at "rd"
        refine ite2 (fun c => absurd c (by simp)) (fun _ => ?_)
        walk_at "rd"
        intro p hp
        refine k1 (.pass b.1 b.2) ?_ p _ (e1.trans (Ex.new hp)) ?_ upd_same
        · show (bandN l).map _ = some _
          rw [show l = tl r from hr1.symm, hb]; rfl
        · exact Evl.fresh_back e1 hp
    · walk_at "rd"
      rw [show (("m" : String) : Str) = ⟨#[109]⟩ from by decide +kernel, hk]
      refine ite2 (fun c2 => ?_) (fun c2 => ?_)
      · obtain ⟨l, hl⟩ : ∃ l, tl x = 109 :: l := by
          cases q : tl x with
          | nil => rw [q] at c2; simp at c2
          | cons a l => rw [q] at c2; simp at c2; exact ⟨l, by rw [c2]⟩
        rw [hl] at k0 k1 hr1
        walk_at "rd"
        refine ⟨r, rfl, hrl, fun H1 e1 => ?_⟩
        rw [show tl r = l from hr1]
        have hs : stgN (109 :: l) = (natN l).map .mix := rfl
        rw [hs] at k0 k1
        cases hb : natN l with
        | none =>
          rw [hb] at k0
          walk_at "rd"
          refine ite2 (fun _ => ?_) (fun c => absurd (by simp [optV]) c)
          walk_at "rd"
          exact k0 rfl _ e1
        | some n =>
          rw [hb] at k1
          walk_at "rd"
          refine ite2 (fun c => absurd c (by simp [optV])) (fun _ => ?_)
          rw [show optV (some n) = V.int n from rfl]
          walk_at "rd"
          intro p hp
          exact k1 _ rfl p _ (e1.trans (Ex.new hp)) (Evl.fresh_back e1 hp) upd_same
      · walk_at "rd"
        rw [show (("d" : String) : Str) = ⟨#[100]⟩ from by decide +kernel, hk]
        refine ite2 (fun c3 => ?_) (fun c3 => ?_)
        · obtain ⟨l, hl⟩ : ∃ l, tl x = 100 :: l := by
            cases q : tl x with
            | nil => rw [q] at c3; simp at c3
            | cons a l => rw [q] at c3; simp at c3; exact ⟨l, by rw [c3]⟩
          rw [hl] at k0 k1 hr1
          walk_at "rd"
          refine ⟨r, rfl, hrl, fun H1 e1 => ?_⟩
          rw [show tl r = l from hr1]
          have hs : stgN (100 :: l) = (readN l).map .dial := rfl
          rw [hs] at k0 k1
          cases hb : readN l with
          | none =>
            rw [hb] at k0
            walk_at "rd"
            refine ite2 (fun _ => ?_) (fun c => absurd (by simp [optV]) c)
            walk_at "rd"
            exact k0 rfl _ e1
          | some n =>
            rw [hb] at k1
            walk_at "rd"
            refine ite2 (fun c => absurd c (by simp [optV])) (fun _ => ?_)
            rw [show optV (some n) = V.int n from rfl]
            walk_at "rd"
            intro p hp
            exact k1 _ rfl p _ (e1.trans (Ex.new hp)) (Evl.fresh_back e1 hp) upd_same
        · walk_at "rd"
          refine ite2 (fun _ => ?_) (fun c => absurd (by simp) c)
          walk_at "rd"
          refine k0 ?_ _ (Ex.refl _)
          cases q : tl x with
          | nil => rfl
          | cons a l =>
            rw [q] at c c2 c3
            simp at c c2 c3
            unfold stgN
            split <;> simp_all
abbrev s__read_rate : Stmt := top 35
theorem sc__read_rate : FnScope ["word", "rate"] ["word"] (defScope s__read_rate) := ⟨rfl, rfl, rfl, by decide +kernel, rfl, by decide +kernel, by decide +kernel⟩
theorem ok_read_rate {f : Addr} {fd : FuncData} (F : Fun K "_read_rate" "_read_rate" s__read_rate f fd) (h_read_natural : Has P w K mg base 2 "read_natural" (spNum natN)) (h_is_rate : Has P w K mg base 2 "is_rate" (spLook isRate)) :
    FnOk P w K mg base CX0 3 f fd ["word"] (spNum rateN) := by
  refine F.ok sc__read_rate (fun vs H Q E h => ?_) (fun cdv A outer s H vs Q E hr h => ?_)
  · obtain ⟨x, rfl, _⟩ := h
    rfl
  · obtain ⟨x, rfl, hx, k⟩ := h
    refine ⟨_, (pss_cons (ps_set (i := 1) sc__read_rate.nd rfl (Or.inl rfl) (pe_ifExp (pt_val (pe_m1 PySem.F.slot_str_startswith PySem.F.type_str_startswith mt_sw (pv 0) pe_str)) (pe_hs h_read_natural hr rfl (pa_cons (pe_slice sl_str (pv 0) (po_some pe_int) po_none) pa_nil)) pe_non))
  (pss_one (ps_ret (pe_ifExp (pt_val (pe_hs h_is_rate hr rfl (pa_cons (pv 1) pa_nil))) (pv 1) pe_non)))), ?_⟩
    refine go_seq ?_
    refine go_asg ?_
    refine cut_e (te := tIf _ _ _) (fun v H' => ∃ r, v = optV r ∧ Ex H H' ∧ r = if (tl x).head? = some 47 then natN ((tl x).drop 1) else none) (fun Q' q => ?_) ?_
    · walk_at "rd"
      rw [str_slash, starts1]
      refine ite2 (fun c => ?_) (fun c => ?_)
      · walk_at "rd"
        refine ⟨_, rfl, Nat.le_trans (cutS_length _ _ _) hx, fun H1 e1 => ?_⟩
        rw [tl_cut1]
        exact q _ _ ⟨_, rfl, e1, by rw [if_pos (of_decide_eq_true c)]⟩
      · walk_at "rd"
        exact q _ _ ⟨none, rfl, Ex.refl _, by rw [if_neg (fun z => c (decide_eq_true z))]⟩
    · rintro v H1 ⟨r, rfl, e1, hr1⟩
      have fin : ∀ H2 (r' : Option Int), Ex H H2 → r' = ge2 r → Q (optV r') H2 := fun H2 r' e h => by
        have := k H2 e
        unfold rateN at this
        rw [← hr1, ← h] at this
        exact this
      walk_at "rd"
      refine look_go (dq_opt _ r) fun H2 e2 => ?_
      walk_at "rd"
      cases r with
      | none =>
        refine ite2 (fun _ => ?_) (fun c => absurd (by simp [optD, isRate]) c)
        walk_at "rd"
        exact fin _ none (e1.trans e2) rfl
      | some i =>
        refine ite2 (fun c => ?_) (fun c => ?_)
        · have : 2 ≤ i := by simpa [optD, isRate] using c
          walk_at "rd"
          exact fin _ (some i) (e1.trans e2) (by show some i = if 2 ≤ i then some i else none; rw [if_pos this])
        · have : ¬ 2 ≤ i := by simpa [optD, isRate] using c
          walk_at "rd"
          exact fin _ none (e1.trans e2) (by show none = if 2 ≤ i then some i else none; rw [if_neg this])
abbrev s__read_look : Stmt := top 37
theorem sc__read_look : FnScope ["word", "place", "_", "rest", "dial", "band"] ["word"] (defScope s__read_look) := ⟨rfl, rfl, rfl, by decide +kernel, rfl, by decide +kernel, by decide +kernel⟩
theorem ok_read_look {f : Addr} {fd : FuncData} (F : Fun K "_read_look" "_read_look" s__read_look f fd) (h_read_number : Has P w K mg base 1 "read_number" (spNum readN)) (h_read_band : Has P w K mg base 4 "read_band" spBandN) :
    FnOk P w K mg base CX0 5 f fd ["word"] spLkN := by
  refine F.ok sc__read_look (fun vs H Q E h => ?_) (fun cdv A outer s H vs Q E hr h => ?_)
  · obtain ⟨x, rfl, _⟩ := h
    rfl
  · obtain ⟨x, rfl, hx, k0, k1⟩ := h
    refine ⟨_, (pss_cons (ps_asg (pe_m1 PySem.F.slot_str_partition PySem.F.type_str_partition mt_prt (pv 0) pe_str) (pg_tup (by rfl) (pgs_cons (pg_name (i := 1) sc__read_look.nd rfl (Or.inl rfl)) (pgs_cons (pg_name (i := 2) sc__read_look.nd rfl (Or.inl rfl)) (pgs_cons (pg_name (i := 3) sc__read_look.nd rfl (Or.inl rfl)) pgs_nil)))))
  (pss_cons (ps_set (i := 4) sc__read_look.nd rfl (Or.inl rfl) (pe_hs h_read_number hr rfl (pa_cons (pv 1) pa_nil)))
  (pss_cons (ps_if (pt_cmpR op_isN1 (pv 4) pe_non (nomark _))
  (pss_one (ps_ret pe_non))
  pss_nil)
  (pss_cons (ps_if (pt_cmpR op_eq (pv 3) pe_str (nomark _))
  (pss_one (ps_ret (pe_tup (pa_cons (pv 4) (pa_cons pe_non (pa_cons pe_non pa_nil))))))
  pss_nil)
  (pss_cons (ps_set (i := 5) sc__read_look.nd rfl (Or.inl rfl) (pe_hs h_read_band hr rfl (pa_cons (pv 3) pa_nil)))
  (pss_one (ps_ret (pe_ifExp (pt_cmpR op_isN1 (pv 5) pe_non (nomark _)) pe_non (pe_tup (pa_cons (pv 4) (pa_cons (pe_ix ix_tup (pv 5) pe_int (fun _ _ => rfl)) (pa_cons (pe_ix ix_tup (pv 5) pe_int (fun _ _ => rfl)) pa_nil)))))))))))), ?_⟩
    walk_at "rd"
    intro p hp
    have e0 := Ex.new (o := HO.tup [V.str (Txt.partition x (Str.ofString "=")).1, .str (Txt.partition x (Str.ofString "=")).2.1, .str (Txt.partition x (Str.ofString "=")).2.2]) hp
    refine go_gtup (.inl (.inl upd_same)) rfl ?_
    walk_at "rd"
    obtain ⟨l1, _, l3⟩ := fact_partition x (Str.ofString "=")
    have ec : tl (Txt.partition x (Str.ofString "=")).1 = (cutEq (tl x)).1 ∧ tl (Txt.partition x (Str.ofString "=")).2.2 = (cutEq (tl x)).2 := by
      have e : tl (Str.ofString "=") = [61] := by decide +kernel
      rw [partition_par x _ (by rw [e]; simp), e]
      unfold cutEq
      cases h : par [61] [] (tl x) with
      | none => exact ⟨rfl, (by decide +kernel : tl Str.empty = [])⟩
      | some p => exact ⟨rfl, rfl⟩
    refine ⟨_, rfl, Nat.le_trans l1 hx, fun H1 e1 => ?_⟩
    rw [ec.1]
    generalize Txt.partition x (Str.ofString "=") = pt at *
    have e01 := e0.trans e1
    unfold lookN at k0 k1
    cases hd : readN (cutEq (tl x)).1 with
    | none =>
      rw [hd] at k0
      walk_at "rd"
      refine ite2 (fun _ => ?_) (fun c => absurd (by simp [optV]) c)
      walk_at "rd"
      exact k0 rfl _ e01
    | some d =>
      rw [hd] at k0 k1
      dsimp only at k0 k1
      walk_at "rd"
      refine ite2 (fun c => absurd c (by simp [optV])) (fun _ => ?_)
      walk_at "rd"
      rw [str_eq, ec.2, show tl (Str.ofString "-") = [45] from by decide +kernel]
      refine ite2 (fun c => ?_) (fun c => ?_)
      · rw [if_pos (of_decide_eq_true c)] at k1
        walk_at "rd"
        intro q hq
        exact k1 ⟨d, none⟩ rfl q _ (e01.trans (Ex.new hq)) (Evl.fresh_back e01 hq) upd_same
      · rw [if_neg (fun z => c (decide_eq_true z))] at k0 k1
        walk_at "rd"
        refine ⟨_, rfl, Nat.le_trans l3 hx, fun hb H2 e2 => ?_, fun b hb q H2 e2 hq => ?_⟩
        · rw [ec.2] at hb
          rw [hb] at k0
          walk_at "rd"
          refine ite2 (fun _ => ?_) (fun c => absurd (by simp) c)
          walk_at "rd"
          exact k0 rfl _ (e01.trans e2)
        · rw [ec.2] at hb
          rw [hb] at k1
          walk_at "rd"
          refine ite2 (fun c => absurd c (by simp)) (fun _ => ?_)
          rw [show optV (some d) = V.int d from rfl]
          walk_at "rd"
          intro p2 hp2
          exact k1 ⟨d, some b⟩ rfl p2 _ ((e01.trans e2).trans (Ex.new hp2)) (Evl.fresh_back (e01.trans e2) hp2) upd_same
end
end Kx

set_option Elab.async false
set_option linter.all false
set_option maxRecDepth 100000
set_option maxHeartbeats 2000000
/-! an own error over ValueError whose __init__ says super().__init__(text) and then stores one field -/
namespace SupX
open PySem PySem.W PySem.Calls PyProof.Rows PySem.HandSPX
/-! ### the bound __init__ of ValueError, called -/
section
variable {prog : Program} {w : World} {A : Around} {E : Value → Shared → Prop} {h : Heap} {g : Array GenState} {d : Drawn} {t : Nat} {os : OsState}
variable {nm q : Str} {C N : Addr} {bs bm : List Value} {hdct : Bool} {sn : List Str} {sub : List Value} {ab : Bool} {col : Option Bool} {dd : Option Addr} {k0 k1 k2 k3 k5 : Option Value}
theorem call_mw {u e t0 : Addr} {vs : List Value} {Q : Value → Shared → Prop}
    (hC : h.get? C = some (excClassObj nm q C N bs bm hdct sn sub ab col dd k0 k1 k2 k3 k5 "ValueError.__new__"))
    (he : h.get? e = some (excO C t0)) (hu : h.get? u = some (kxs_mw "ValueError.__init__" e)) (hz : vs.length ≤ sizeLine)
    (hq : ∀ h' t1, (∀ b o, b ≠ e → h.get? b = some o → h'.get? b = some o) → h'.get? e = some (excO C t1) → Q .none ⟨h', g, d, t, os⟩) :
    wpAny (model prog w) A (call (.ref u) vs) Q E ⟨h, g, d, t, os⟩ := by
  have c1 : (Value.type "method-wrapper" == Value.type "method" || Value.type "method-wrapper" == Value.type "builtin_function_or_method" || Value.type "method-wrapper" == Value.type "method-wrapper") = true := by decide
  refine wpAny_call ?_
  refine codeAny_of_tree ?_
  show wpAny _ A.in1 (callAny (.ref u) ⟨vs, []⟩) _ _ _
  simp only [callAny]
  refine wpAny_bind ?_
  refine wpAny_load hu ?_
  simp only [kxs_mw, c1, if_true]
  refine KFB.if_so (by decide) ?_
  refine wpAny_bind ?_
  refine check_bound_init F.excBase_ValueError.toExcCallFacts hC he rfl ?_
  refine wpAny_bind (wpAny_pure ?_)
  refine wpAny_pure ?_
  refine ⟨plainId_quiet F.excBase_ValueError.init.plain _, ?_⟩
  refine codeAny_builtin F.excBase_ValueError.initEntry ?_
  rw [Around.under_plainId F.excBase_ValueError.init.plain _]
  wp_walk
  refine hq _ h.objs.size (fun b o hb ho => ?_) ?_
  · rw [Heap.get?_update_other _ _ (Ne.symm hb)]
    exact Heap.get?_push_of_some _ ho
  · rw [Heap.get?_update_self _ (Heap.get?_push_of_some _ he) rfl]
    rfl
end
/-- o.name(e), o told of a known activation -/
theorem at_method {M : Model} {A : Around} {c : Code} {E : Value → Shared → Prop} {s : Shared} {env : Env} {o e : Expr} {name : Str} {apos pos : Pos} {Q : Value → Shared → Prop} (hl : (apos.endLine == pos.line) = true)
    (hf : methodCallForm 1 (backTo pos (starEach [e] env)) [] = true)
    (h : PySem.wpAt M A c (attributeBase o name env (eval o env)) (fun ov s₁ => wpAny M A (getMethod ov name (do return (← importBound o env).getD true)) (fun fx s₂ => wpAny M A (callWith pos fx.1 fx.2 (backTo pos (starEach [e] env)) []) Q E s₂) E s₁) E s) :
    PySem.wpAt M A c (eval (.Call (.Attribute o name apos) [e] [] pos) env) Q E s := by
  have hp : methodCallPos true o env apos pos = pure pos := by unfold methodCallPos; simp [hl]
  rw [arm_eval_Call]
  refine PySem.wpAt_bind (ks_wpAt_mono h (fun ov s₁ h₁ => ?_) fun _ _ z => z)
  refine PySem.wpAt_of_wpAny ?_
  refine wpAny_bind (wpAny_standAt ?_)
  unfold methodCall
  rw [show methodCallForm ([e].length + ([] : List Keyword).length) (backTo pos (starEach [e] env)) (backToKw pos (keywordEach [] env)) = true from hf]
  refine wpAny_bind (wpAny_holding ?_)
  exact wpAny_mono h₁ (fun fx s₂ h₂ => wpAny_bind (wpAny_of_eq hp h₂)) fun _ _ z => z
/-! ### the text of __init__ -/
def iA (f : Str) (p1 p2 : Pos) : Arguments :=
  { posonlyargs := [], args := [{ arg := "self", annotation := none, pos := p1 }, { arg := f, annotation := none, pos := p2 }], vararg := none, kwonlyargs := [], kw_defaults := [], kwarg := none, defaults := [] }
def iB (f msg : Str) (p1 p2 p3 p4 p5 p6 q1 q2 q3 q4 : Pos) : List Stmt :=
  [.Expr (.Call (.Attribute (.Call (.Name "super" p1) [] [] p2) "__init__" p3) [.Constant (.str msg) 0 p4] [] p5) p6, .Assign [.Attribute (.Name "self" q1) f q2] (.Name f q3) q4]
def iS (f : Str) : Scope :=
  { kind := .function, names := [(PySem.Str.ofString "self", .local), (f, .local), (PySem.Str.ofString "__class__", .free), (PySem.Str.ofString "super", .globalImplicit)], isGenerator := false, isCoroutine := false, more := [] }
/-- what the written part says of the error at C and of its __init__ at fI -/
structure ErrTxt (P : Program) (K : Frag) (mg : Str → Option Value) (nmE fld : Str) (C fI : Addr) : Prop where
  okf : fld = "index" ∨ fld = "word"
  gC : mg nmE = some (.ref C)
  cls : ∃ nm q N bs bm sn sub ab col dd k0 k1 k2 k3 k5, K.lookup C = some (excClassObj nm q C N bs bm true sn sub ab col dd k0 k1 k2 k3 k5 "ValueError.__new__") ∧ refsVE bm = true
  sa : findIn K (.ref C) "__setattr__" = some (some (.builtin "object.__setattr__"))
  ga : findIn K (.ref C) "__getattribute__" = some (some (.builtin "BaseException.__getattribute__"))
  gg : findIn K (.ref C) "__getattr__" = some none
  noN : findIn K (.ref C) fld = some none
  iC : findIn K (.ref C) "__init__" = some (some (.ref fI))
  tC : typeIn K (.ref fI) = some (.type "function")
  kC : keepIn K (.ref C) = true
  exC : subIn K (.ref C) (.type "BaseException") = some true
  veC : subIn K (.ref C) (.type "ValueError") = some true
  meC : mroIn K C (.ref C) = some true
  tyC : typeIn K (.ref C) = some (.type "type")
  hdC : hasDictIn K C = true
  te : exmOne K (.ref C) (.ref C) = some true
  sup : ks_superIn K C C "__init__" = some (some (.builtin "ValueError.__init__"))
  op : nsIn K cStatics "thirdparty.any" = some none
  gs : mg "super" = none
  top : (P.main.scope.names.lookup ("super" : Str)).isSome = false
  fn : ∃ (oc : Value) (od : Option Addr) (doc pm : Value) (an : Option Addr) (ct qn : Value) (q : Str) (osl : Array (Option Value)) (msg : Str) (p1 p2 a1 a2 a3 a4 a5 a6 q1 q2 q3 q4 : Pos) (cc cda : Addr)
      (cl : Value) (cld : Option Addr) (csl : Array (Option Value)) (dl : Value) (dld : Option Addr) (dsl : Array (Option Value)) (vs : Array Value) (file : Str) (tf : Tok),
    K.lookup fI = some ⟨oc, od, .func (fnX "__init__" q (iA fld p1 p2) (iB fld msg a1 a2 a3 a4 a5 a6 q1 q2 q3 q4) (iS fld) [("__class__", cc)] .none .none doc pm an (.ref cda) ct), osl⟩ ∧ codeIn K (.ref cda) q = true ∧
      K.lookup cc = some ⟨cl, cld, .cell (some (.ref C)), csl⟩ ∧ K.lookup cda = some ⟨dl, dld, .fields vs, dsl⟩ ∧ vs[2]? = some (.str file tf) ∧ ((P.main.file : Str) == file) = true ∧ (a3.endLine == a5.line) = true
/-- what __init__ leaves of a fresh exception at x -/
structure InitEnd (fld : Str) (h h' : Heap) (x C dx t1 : Addr) (v : Value) : Prop where
  keep : ∀ b o, b ≠ x → h.get? b = some o → h'.get? b = some o
  obj : h'.get? x = some { cls := .ref C, dict := some dx, data := .fields #[.ref t1, .none, .none, .none, .bool false, .none] }
  dbig : h.objs.size ≤ dx
  dne : dx ≠ x
  ns : h'.Ns1 dx (fun y => if y = fld then some v else none)
structure OwnMade (fld : Str) (h h' : Heap) (e C d : Addr) (v : Value) : Prop where
  keep : ∀ b o, h.get? b = some o → h'.get? b = some o
  new : h.objs.size ≤ e
  obj : ∃ t1 : Addr, h'.get? e = some { cls := .ref C, dict := some d, data := .fields #[.ref t1, .none, .none, .none, .bool false, .none] }
  dbig : h.objs.size ≤ d
  dne : d ≠ e
  ns : h'.Ns1 d (fun y => if y = fld then some v else none)
/-- what stands below: the globals, the built-ins -/
structure Gnd (mg : Str → Option Value) (h : Heap) : Prop where
  lim : h.NoLimit
  g : h.Ns mainGlobals mg
  b : ∃ mb, h.Ns builtinsNs mb ∧ ∀ x : Str, x ≠ "__name__" → mb x = bootBuiltins x
theorem Gnd.keeps {mg : Str → Option Value} {h h' : Heap} (G : Gnd mg h) (k : ∀ b o, h.get? b = some o → h'.get? b = some o) : Gnd mg h' :=
  ⟨G.lim.keeps k, G.g.keeps k, let ⟨mb, q1, q2⟩ := G.b; ⟨mb, q1.keeps k, q2⟩⟩
section
variable {P : Program} {w : World} {A : Around} {E : Value → Shared → Prop} {R : Result → Shared → Prop} {s : Shared} {K : Frag} {mg : Str → Option Value} {nmE fld : Str} {C fI : Addr}
theorem sup_init (T : ErrTxt P K mg nmE fld C fI) {x t0 : Addr} {v : Value} {args : Args} (hargs : args = ⟨[.ref x, v], []⟩ ∨ args = ⟨[.ref x], [(fld, v)]⟩) (X : K.In s.heap) (G : Gnd mg s.heap) (hx : s.heap.get? x = some (excO C t0)) (hnx : K.lookup x = none) (hroom : A.depth < recursionLimit)
    (hq : ∀ h' tk dx t1, InitEnd fld s.heap h' x C dx t1 v → R (.ok (.ret .none)) { s with heap := h', toks := tk }) :
    codeAny (model P w) A (.call (.ref fI) args) R s := by
  obtain ⟨oc, od, doc, pm, an, ct, qn, q, osl, msg, p1, p2, a1, a2, a3, a4, a5, a6, q1, q2, q3, q4, cc, cda, cl, cld, csl, dl, dld, dsl, vs, file, tf, ho, hcd, hcc, hcda, hvs, hfile, hln⟩ := T.fn
  obtain ⟨nm, qq, N, bs, bm, sn, sub, ab, col, dd, k0, k1, k2, k3, k5, hC, hbm⟩ := T.cls
  have hcl : clsIn K C = some { name := nm, bases := bs, mro := .ref C :: bm, ns := N, qualname := qq, hasDict := true, slotNames := sn, subclasses := sub, abstract := ab, collection := col, hasDel := false } := by unfold clsIn; rw [hC] <;> rfl
  obtain ⟨lim, gg, mb, gb, hbb⟩ := G
  have main : ∀ (fld : Str), (args = ⟨[.ref x, v], []⟩ ∨ args = ⟨[.ref x], [(fld, v)]⟩) → (fld = "index" ∨ fld = "word") → findIn K (.ref C) fld = some none →
      K.lookup fI = some ⟨oc, od, .func (fnX "__init__" q (iA fld p1 p2) (iB fld msg a1 a2 a3 a4 a5 a6 q1 q2 q3 q4) (iS fld) [("__class__", cc)] .none .none doc pm an (.ref cda) ct), osl⟩ →
      (∀ h' tk dx t1, InitEnd fld s.heap h' x C dx t1 v → R (.ok (.ret .none)) { s with heap := h', toks := tk }) → codeAny (model P w) A (.call (.ref fI) args) R s := by
    intro fld hargs okf noN ho hq
    have kI : (iS fld).names.lookup ("self" : Str) = some .local := rfl
    have kF : (iS fld).names.lookup fld = some .local := by rcases okf with rfl | rfl <;> decide
    have kC : (iS fld).names.lookup ("__class__" : Str) = some .free := by rcases okf with rfl | rfl <;> decide
    have kS : (iS fld).names.lookup ("super" : Str) = some .globalImplicit := by rcases okf with rfl | rfl <;> decide
    have kD : (fld == ("__debug__" : Str)) = false := by rcases okf with rfl | rfl <;> decide
    have bnd : ∀ s, BindsTo s (fnX "__init__" q (iA fld p1 p2) (iB fld msg a1 a2 a3 a4 a5 a6 q1 q2 q3 q4) (iS fld) [("__class__", cc)] .none .none doc pm an (.ref cda) ct) args [("self", .ref x), (fld, v)] := fun s => by
      rcases hargs with rfl | rfl <;> rcases okf with rfl | rfl <;> exact BindsTo.of_eq rfl
    have lkF : ([("self", Value.ref x), (fld, v)] : List (Str × Value)).reverse.lookup fld = some v := by simp [List.lookup]
    have lkS : ([("self", Value.ref x), (fld, v)] : List (Str × Value)).reverse.lookup ("self" : Str) = some (Value.ref x) := by rcases okf with rfl | rfl <;> rfl
    refine ks_codeAny_call_defAt (fd := fnX "__init__" q (iA fld p1 p2) (iB fld msg a1 a2 a3 a4 a5 a6 q1 q2 q3 q4) (iS fld) [("__class__", cc)] .none .none doc pm an (.ref cda) ct) (binds := [("self", .ref x), (fld, v)])
      hroom (X _ _ ho) rfl lim (codeRec_of X hcd) rfl (bnd _) (fun y hy => ?_) (fun y hy => ?_) (fun h₁ hns k => ?_) rfl rfl rfl
    · rcases okf with rfl | rfl <;> (intro z; simp [iS] at hy; rcases hy with rfl | rfl | rfl | rfl <;> cases z)
    · rcases List.mem_cons.mp hy with rfl | hy
      · exact kI
      · rw [List.mem_singleton.mp hy]
        exact kF
    have X₁ : K.In h₁ := X.keeps k
    have hx₁ := k _ _ hx
    show PySem.wpAt _ _ _ (execs _ _) _ _ _
    refine ks_wpAt_execs_cons (ks_wpAt_Expr_any (at_method hln rfl ?_))
    refine ks_wpAt_super_base (env := ksEnv q (iS fld) s.heap.objs.size fI (.ref cda) cc) kS kC (by decide) rfl (X₁ _ _ ho) rfl rfl rfl (X₁ _ _ hcda) rfl hvs hfile T.top ?_
    refine ks_loadName_global rfl kS (loadGlobal_builtin (env := ksEnv q (iS fld) s.heap.objs.size fI (.ref cda) cc) (gg.keeps k) T.gs (gb.keeps k) ((hbb _ (by decide +kernel)).trans (by first | boot_by_name | rfl | kernel_rfl)) ⟨rfl, ?_⟩)
    refine wpAny_loadName_free rfl kC rfl ⟨_, X₁ _ _ hcc, rfl⟩ ?_
    refine wpAny_loadName_local rfl kI hns lkS ?_
    refine ks_wpAny_isType_cls (X₁ _ _ hC) rfl ⟨rfl, ?_⟩
    have noc : ∀ c, (excO C t0).data ≠ .cls c := fun c z => nomatch z
    refine ks_wpAny_call_super (X₁ _ _ hC) rfl hx₁ rfl noc (looks_mroIn X₁ T.meC) (fun h₂ hso k₂ => ?_)
    have X₂ : K.In h₂ := X₁.keeps k₂
    have hx₂ := k₂ _ _ hx₁
    have hxC : x ≠ C := fun z => by rw [z] at hnx; rw [hnx] at hC; cases hC
    have hsup : alongIn K "__init__" (((.ref C :: bm : List Value).dropWhile (· != .ref C)).drop 1) = some (some (.builtin "ValueError.__init__")) := by
      have z := T.sup
      unfold ks_superIn at z
      rw [hcl] at z
      exact z
    have I₂ : InstAt h₂ x (excO C t0) C none := ⟨hx₂, rfl, rfl, trivial⟩
    refine kxs_getMethod kxs_ValueError hso (looks_opaque X₂ T.op) (l₀ := .ref C :: bm) ((looks_clsIn X₂ hcl).andThen .now) rfl X₂ hsup (I₂.type.andThen (looks_subIn X₂ T.veC)) hxC (by decide) ?_
    have hu : (h₂.push (kxs_mw "ValueError.__init__" x)).get? h₂.objs.size = some (kxs_mw "ValueError.__init__" x) := Heap.get?_push_at rfl rfl
    have k₃ : ∀ b o, h₂.get? b = some o → (h₂.push (kxs_mw "ValueError.__init__" x)).get? b = some o := fun b o e => Heap.get?_push_of_some _ e
    refine kxs_callWith (i := "ValueError.__init__") (x := x) rfl ?_
    refine evalArgs_plain (spliced_cons (wpAny_Constant_str (k := 0) (pos := a4) (spliced_nil ⟨hu, ?_⟩)))
    refine call_mw (X₂.keeps k₃ _ _ hC) (k₃ _ _ hx₂) hu (by show 1 ≤ sizeLine; rw [sizeLine_eq]; decide) fun h₄ t1 k₄ hx₄ => ?_
    -- self.f = f
    have kk : ∀ b o, b ≠ x → h₁.get? b = some o → h₄.get? b = some o := fun b o hb e => k₄ b o hb (k₃ b o (k₂ b o e))
    have hxL : s.heap.objs.size ≠ x := Nat.ne_of_gt (Heap.lt_size hx)
    have hns₄ : h₄.Ns s.heap.objs.size (fun y => ([("self", Value.ref x), (fld, v)] : List (Str × Value)).reverse.lookup y) := hns.at fun o e => kk _ _ hxL e
    have X₄ : K.In h₄ := fun b o e => kk b o (fun z => by rw [z, hnx] at e; cases e) (X₁ b o e)
    refine ks_wpAt_execs_cons (PySem.wpAt_of_wpAny ?_)
    refine plainObj_wpAny_Assign_Attribute ?_
    refine wpAny_Name (wpAny_loadName_local rfl kF hns₄ lkF ?_) kD
    refine wpAny_Name (wpAny_loadName_local rfl kI hns₄ lkS ?_) (by decide)
    refine set_plain X₄ (ox := excO C t1) (od := none) ⟨hx₄, rfl, rfl, trivial⟩ T.sa ?_
    refine exc_osa X₄ hx₄ hcl (show refsVE (.ref C :: bm) = true from hbm) rfl noN (fun h₅ tk₅ dx k₅ dn dne hx₅ hn₅ => ?_)
    refine PySem.wpAt_of_wpAny ?_
    show wpAny _ _ (execs [] _) _ _ _
    have lt1 : s.heap.objs.size ≤ dx := by
      have q1 : s.heap.objs.size < h₄.objs.size := hns₄.lt
      have q2 : h₄.objs.size ≤ dx := dn
      omega
    exact wpAny_execs_nil (hq h₅ tk₅ dx t1 ⟨fun b o hb e => k₅ b o hb (kk b o hb (k b o e)), hx₅, lt1, dne, hn₅⟩)
  exact main fld hargs T.okf T.noN ho hq
theorem sup_made (T : ErrTxt P K mg nmE fld C fI) {v : Value} (X : K.In s.heap) (G : Gnd mg s.heap) (hroom : A.depth + 1 < recursionLimit)
    (hq : ∀ h' tk e d, OwnMade fld s.heap h' e C d v → R (.ok (.ret (.ref e))) { s with heap := h', toks := tk }) :
    codeAny (model P w) A (.call (.ref C) ⟨[v], []⟩) R s := by
  obtain ⟨nm, qq, N, bs, bm, sn, sub, ab, col, dd, k0, k1, k2, k3, k5, hC, hbm⟩ := T.cls
  obtain ⟨hp, g, dr, tk, os⟩ := s
  have k : ∀ b o, hp.get? b = some o → ((hp.push (kdv_tup [v])).push (excO C hp.objs.size)).get? b = some o := fun b o e => Heap.get?_push_of_some _ (Heap.get?_push_of_some _ e)
  have hget : ((hp.push (kdv_tup [v])).push (excO C hp.objs.size)).get? (hp.objs.size + 1) = some (excO C hp.objs.size) := by heap_get
  have hnx : K.lookup (hp.objs.size + 1) = none := by
    cases e : K.lookup (hp.objs.size + 1) with
    | none => rfl
    | some o => exact absurd (Nat.lt_of_succ_lt (Heap.lt_size (X _ _ e : hp.get? (hp.objs.size + 1) = some o))) (Nat.lt_irrefl _)
  refine call_own F.excBase_ValueError (fun X => refsVE_contains X bm hbm) (X _ _ hC) (looks_findIn X T.iC) (fun self => bind_fn X self T.tC) (by show 1 ≤ sizeLine; rw [sizeLine_eq]; decide) ?_
  refine sup_init (s := ⟨(hp.push (kdv_tup [v])).push (excO C hp.objs.size), g, dr, tk, os⟩) T (.inl rfl) (X.keeps k) (G.keeps k) hget hnx hroom fun h' tk' dx t1 I => ?_
  have old : ∀ b o, hp.get? b = some o → h'.get? b = some o := fun b o e => I.keep b o (Nat.ne_of_lt (Nat.lt_succ_of_lt (Heap.lt_size e))) (k b o e)
  have z : hp.objs.size + 1 + 1 ≤ dx := by simpa only [Heap.size_push] using I.dbig
  exact ⟨rfl, hq h' tk' (hp.objs.size + 1) dx ⟨old, Nat.le_succ _, ⟨t1, I.obj⟩, by show hp.objs.size ≤ dx; omega, I.dne, I.ns⟩⟩
end
end SupX

set_option Elab.async false
set_option linter.all false
set_option maxRecDepth 100000
set_option maxHeartbeats 2000000
namespace HX
open PySem PySem.Spec PyProof.Rows L2
theorem relO_fld {fld : Str} {v : V} {v' : Value} (r : RelV v v') (f : Str) : RelO (List.lookup f [(fld, v)]) (if f = fld then some v' else none) := by
  by_cases hw : f = fld
  · subst hw
    rw [if_pos rfl, show List.lookup f [(f, v)] = some v from by simp [List.lookup]]
    exact r
  · rw [if_neg hw, show List.lookup f [(fld, v)] = none from by simp [List.lookup, show (f == fld) = false from by simpa using hw]]
    trivial
theorem gnd_of {X : Cx} {pins : List (Addr × Obj)} {σ : L2.St} {H : Hp} {s : Shared} (I : Inv X pins σ H s) : SupX.Gnd X.mg s.heap :=
  ⟨I.nolimit, I.mod.glob.keeps I.bk, let ⟨mb, q1, q2⟩ := I.mod.blt; ⟨mb, q1.keeps I.bk, q2⟩⟩
section
variable {X : Cx} {nmE fld : Str} {C fI : Addr}
/-- X(e), X an own error with one field -/
def tMkErr (fld : Str) (C : Addr) (ta : TA) : L2.St → Hp → XK → Prop := fun σ H Q => ta σ H fun vs H1 => ∃ v, vs = [v] ∧ ∀ d, H1 d = none → Q (.ref C) (some d) (upd H1 d (.xd [(fld, v)]))
theorem pmk_err {a : Expr} {ta : TA} {p pos : Pos} {k : Nat} (T : SupX.ErrTxt X.prog X.K X.mg nmE fld C fI) (hr : Room k X.A) (ha : PA X [a] ta) (hg : Gl X nmE) (hdb : (nmE == ("__debug__" : Str)) = false)
    (he : starEach (a :: []) X.env = (false, eval a X.env) :: starEach [] X.env := by rfl) (hpl : (backTo pos (starEach [] X.env)).any (·.1) = false := by rfl) :
    PMk X (.Call (.Name nmE p) [a] [] pos) (tMkErr fld C ta) := by
  intro pins s σ H Q I h
  refine wpAny_Call_Name_kw (ld_glob I hg T.gC ?_ hdb)
  refine PySem.W.callWith_K (h₀ := X.base) I.ok.mod.kin T.kC (thn (ha.run pos pins s σ H _ I h) fun us s1 hh => ?_) he hpl
  obtain ⟨vs, H1, I1, r1, v, ev, q1⟩ := hh
  subst ev
  refine ⟨I1.kIn, ?_⟩
  cases r1 with
  | cons rv rn =>
    rename_i v' us'
    cases rn
    show wpAny _ _ (call (.ref C) [v']) _ _ _
    have G1 := gnd_of I1
    obtain ⟨hp, g, dr, tk, os⟩ := s1
    refine wpAny_call (SupX.sup_made T I1.kIn G1 (by have := hr.dp; omega) fun h' tk' e d M => ?_)
    show MkP X pins σ Q (.ref e) ⟨h', g, dr, tk', os⟩
    obtain ⟨t1, hoe⟩ := M.obj
    have hns := M.ns
    obtain ⟨G', g1, g2⟩ := restrict h' fun b => decide (b ≠ e)
    have gk : ∀ b, b ≠ e → G'.get? b = h'.get? b := fun b hb => g1 b (decide_eq_true hb)
    have ge : G'.get? e = none := g2 e (by simp)
    have old : ∀ b o, hp.get? b = some o → G'.get? b = some o := fun b o q => (gk b (Nat.ne_of_lt (Nat.lt_of_lt_of_le (Heap.lt_size q) M.new))).trans (M.keep b o q)
    have ob : ObjOk X.prog X.w (upd H1 d (.xd [(fld, v)])) G' d (.xd [(fld, v)]) :=
      ⟨_, hns.at (fun o q => (gk d M.dne).trans q), fun f => relO_fld rv f⟩
    have J : Inv X pins σ (upd H1 d (.xd [(fld, v)])) ⟨G', g, dr, tk', os⟩ := I1.laid (t' := tk') old M.dbig ob
    refine ⟨e, _, _, ⟨G', g, dr, tk', os⟩, _, .ref C, some d, rfl, J, fun b o q => ?_, ge, hoe, ⟨rfl, rfl⟩, rfl, rfl, ?_, rfl, I1.bare, raises_own T.exC T.tyC, q1 d (I1.hok.fresh M.dbig)⟩
    · by_cases hb : b = e
      · have q' : G'.get? b = some o := q
        rw [hb, ge] at q'; cases q'
      · exact (gk b hb).symm.trans q
    · rw [upd_ne (Ne.symm M.dne)]
      exact I1.hok.fresh M.new
/-- raise X(e) -/
def tRaiseErr (fld : Str) (C : Addr) (W : WX) (ta : TA) : TS := fun _ σ H => tMkErr fld C ta σ H fun cls d H' => W cls d σ H'
theorem ps_raiseErr {a : Expr} {ta : TA} {W : WX} {p pos pos2 : Pos} {k : Nat} (hc : X.calm = true) (T : SupX.ErrTxt X.prog X.K X.mg nmE fld C fI) (hr : Room k X.A) (tk : Takes X W) (ha : PA X [a] ta) (hg : Gl X nmE := by rfl) (hdb : (nmE == ("__debug__" : Str)) = false := by decide)
    (he : starEach (a :: []) X.env = (false, eval a X.env) :: starEach [] X.env := by rfl) (hpl : (backTo pos (starEach [] X.env)).any (·.1) = false := by rfl) :
    PS X (.Raise (some (.Call (.Name nmE p) [a] [] pos)) none pos2) (tRaiseErr fld C W ta) := ps_raise hc tk (pmk_err T hr ha hg hdb he hpl)
/-- e.fld, e the exception that the suite holds (at a; its class cls, its dict d) -/
def tByErr (fld : Str) (C : Addr) (a : Addr) (cls : Value) (d : Option Addr) (te : TE) : TE := fun σ H Q => te σ H fun x H1 => x = .ref a ∧ cls = .ref C ∧ ∃ (dd : Addr) (v : V), d = some dd ∧ H1 dd = some (.xd [(fld, v)]) ∧ Q v H1
theorem pe_byErr {a : Addr} {oe : Obj} {cls : Value} {d : Option Addr} {pn : List (Addr × Obj)} {e : Expr} {te : TE} {pos : Pos} (T : SupX.ErrTxt X.prog X.K X.mg nmE fld C fI) (hz : Zc cls d oe) (hf : ∃ vs, oe.data = .fields vs) (he : PE (X.suite a ((a, oe) :: pn)) e te)
    (hb : attributeBase e fld X.env (eval e X.env) = eval e X.env := by rfl) :
    PE (X.suite a ((a, oe) :: pn)) (.Attribute e fld pos) (tByErr fld C a cls d te) := by
  refine ⟨fun pins s σ H Q I h => ?_⟩
  refine attr_of hb (thn (he.run pins s σ H _ I h) fun u s1 hh => ?_)
  obtain ⟨x, H1, I1, rx, ex, ec, dd, v, ed, ea, q⟩ := hh
  subst ex
  obtain rfl : u = Value.ref a := rx
  subst ec
  subst ed
  obtain ⟨ha, _⟩ := I1.pin (a, oe) (List.mem_append_left _ List.mem_cons_self)
  obtain ⟨vs, hd⟩ := hf
  have hx : ObjOk X.prog X.w H1 s1.heap dd (.xd [(fld, v)]) := I1.hok dd _ ea
  obtain ⟨mA, hns, hr⟩ := hx
  obtain ⟨od, ho, hl⟩ := lookIn_ns hns
  have l : List.lookup fld [(fld, v)] = some v := by simp [List.lookup]
  obtain ⟨u, hu, ru⟩ := RelO.some_of (v := v) (o := mA fld) (by rw [← l]; exact hr fld)
  have J : PySem.W.InstAt s1.heap a oe C (some od) := ⟨ha, hz.1, by unfold PySem.W.notCls; rw [hd] <;> rfl, by rw [hz.2]; exact ho⟩
  exact HandSPX.exc_get I1.kIn J T.ga T.gg T.exC (PySem.W.findObj_own T.hdC T.noN rfl (by rw [hl, hu])) (handed_of ru) ⟨v, H1, I1.tok _, ru, q⟩
end
end HX

set_option Elab.async false
set_option linter.all false
set_option maxRecDepth 100000
set_option maxHeartbeats 2000000
/-! several except clauses, each with the same name (as e) -/
namespace HX
open PySem PySem.Spec PyProof.Rows L2
/-- behind a suite the name's slot is empty -/
def Ends.clr (i : Nat) (D : Ends) : Ends := { nx := fun τ G => D.nx (τ.set i none) G, rt := D.rt, bk := fun τ G => D.bk (τ.set i none) G, ct := fun τ G => D.ct (τ.set i none) G }
def wAll (K : PySem.W.Frag) (i : Nat) (Wo : WX) (D : Ends) : List (Value × (Addr → Value → Option Addr → TS)) → WX
  | [] => Wo
  | (c, t) :: more => fun cl dd τ G => ∃ yes, PySem.W.exmOne K cl c = some yes ∧ (yes = true → ∀ x, G x = none → t x cl dd (Ends.clr i D) (τ.set i (some (.ref x))) G) ∧ (yes = false → wAll K i Wo D more cl dd τ G)
inductive Clauses (X : Cx) (n : Str) : List ExceptHandler → List (Value × (Addr → Value → Option Addr → TS)) → Prop
  | nil : Clauses X n [] []
  | cons {x : Str} {c : Value} {t : Addr → Value → Option Addr → TS} {b : Stmt} {bs : List Stmt} {p q : Pos} {hs : List ExceptHandler} {l : List (Value × (Addr → Value → Option Addr → TS))} (nm : Names X x c)
      (body : ∀ (x : Addr) (ob : Obj) (cl : Value) (dd : Option Addr) (pn : List (Addr × Obj)), Zc cl dd ob → (∃ vs, ob.data = .fields vs) → PSs (X.suite x ((x, ob) :: pn)) (b :: bs) (t x cl dd)) (more : Clauses X n hs l) :
      Clauses X n (.ExceptHandler (some (.Name x p)) (some n) (b :: bs) q :: hs) ((c, t) :: l)
section
variable {X : Cx} {n : Str} {i : Nat} {body : List Stmt} {h1 : ExceptHandler} {hs : List ExceptHandler} {l : List (Value × (Addr → Value → Option Addr → TS))} {pos : Pos} {tb : WX → TS} {Wo : WX}
theorem ps_try_all (st : X.stack = X.env :: X.outer) (fr : X.env.frame = some X.env.locals) (nd : X.N.Nodup) (at_ : X.N[i]? = some n) (lc : X.env.kindOf n = some .local) (out : Takes X Wo)
    (hb : ∀ (W : WX) (pn : List (Addr × Obj)) (xe : Value → Shared → Prop), Takes (X.tr pn xe) W → PassesOwn (model X.prog X.w) X.A X.env xe → PSs (X.tr pn xe) body (tb W)) (cs : Clauses X n (h1 :: hs) l) :
    PS X (.Try body (h1 :: hs) [] [] pos) (fun D σ H => tb (wAll X.K i Wo D l) D σ H) := by
  constructor
  intro pins s σ H D I want
  have okX := I.ok
  have frs1 : X.A.frames = some (X.env :: X.outer) := okX.frames.trans (by rw [st])
  refine wpAny_Try_except ?_
  let after : Value → Shared → Prop := fun u s1 => wpAny (model X.prog X.w) X.A (noteFrame u X.env) (fun _ s2 =>
    wpAny (model X.prog X.w) X.A (setFlight u none) (fun _ s3 => wpAny (model X.prog X.w) X.A (handleBy u X.env (h1 :: hs)) (SP X pins D) X.xe s3) X.xe s2) X.xe s1
  have caught : Takes (X.tr (X.pn ++ pins) after) (wAll X.K i Wo D l) := by
    rintro u s1 ⟨x, gr, s0, pins2, τ, G, cl, dd, rfl, I2, ng, us, sk, nx, eos, bare, want2⟩
    have I0 : Inv X pins τ G s0 := I2.ofTry okX
    rw [show (X.tr (X.pn ++ pins) after).stack = X.env :: X.outer from st] at sk
    show wpAny (model X.prog X.w) X.A (noteFrame (.ref x) X.env) _ _ _
    refine Sky.land Zc.steady frs1 fr sk fun g2 fly us2 => ?_
    have I3 : Inv X pins τ G { s1 with heap := g2 } := I0.landed ng fly.1 (us.trans us2) eos bare
    obtain ⟨ob, vs, gx, zx, dx⟩ := fly.there
    have apart : x ∉ frs (X.env :: X.outer) := by
      intro m
      obtain ⟨_, o2, e2, nf⟩ := fly.2.2.1.mem m
      rw [gx] at e2
      cases e2
      exact nf _ dx
    have xL : x ≠ X.env.locals := fun z => apart (List.mem_filterMap.mpr ⟨X.env, List.mem_cons_self, by rw [fr, z]⟩)
    have xF : x ∉ X.fs := by
      intro m
      obtain ⟨e2, m2, q2⟩ := List.mem_filterMap.mp m
      exact apart (List.mem_filterMap.mpr ⟨e2, List.mem_cons_of_mem _ m2, q2⟩)
    have inS := I3.suite gx dx nx xL xF
    have walkC : ∀ {hs2 : List ExceptHandler} {l2 : List (Value × (Addr → Value → Option Addr → TS))}, Clauses X n hs2 l2 → wAll X.K i Wo D l2 cl dd τ G →
        wpAny (model X.prog X.w) X.A (handleBy (.ref x) X.env hs2) (SP X pins D) X.xe { s1 with heap := g2 } := by
      intro hs2 l2 c2
      induction c2 with
      | nil =>
        intro w
        refine wpAny_handleBy_nil ?_
        obtain ⟨_, _, _, ob2, vs2, Tb, oTb, ts2, gx2, _, dx2, v1, _⟩ := id fly
        unfold PySem.passOn
        refine wpAny_bind (wpAny_field gx2 dx2 v1 ?_)
        have isnt : ¬ ((Value.ref Tb == Value.none) = true) := by simp
        rw [if_neg isnt]
        have leave : wpAny (model X.prog X.w) X.A (setFlight (.ref x) X.env.frame) (fun _ s4 => wpAny (model X.prog X.w) X.A (throw (.ref x) : Sem Flow) (SP X pins D) X.xe s4) X.xe { s1 with heap := g2 } := by
          rw [fr]
          refine HandSPX.setFlight_upZ fly fun g4 held us4 => ?_
          refine wpAny_throw (out _ _ ?_)
          refine ⟨x, gr, s0, pins, τ, G, cl, dd, rfl, I0, ng, (us.trans us2).trans us4, ?_, nx, eos, bare, w⟩
          rw [st]
          exact .inr (.inr held)
        first
          | exact wpAny_bind leave
          | exact wpAny_bind (wpAny_pure (wpAny_bind leave))
      | @cons xn c t b bs p q hs3 l3 nm suite more ih =>
        intro w
        obtain ⟨yes, match_, yesW, noW⟩ := w
        refine wpAny_handleBy_cons (codeAny_handlers_test ?_) (by intro z; cases z)
        have ty : PySem.W.Looks (model X.prog X.w) g2 (typeOf (.ref x)) cl := fun A Q E s4 k z => wpAny_typeOf_ref (k _ _ gx) (by rw [zx.1]; exact z)
        have looks := PySem.W.exm_one (M := model X.prog X.w) I3.kIn ty match_
        have nameOf : ∀ {Q : Value → Shared → Prop} {E : Value → Shared → Prop}, Q c { s1 with heap := g2 } → wpAny (model X.prog X.w) (X.A.mark (some (.ref x))) (eval (.Name xn p) X.env) Q E { s1 with heap := g2 } := by
          intro Q E z
          obtain ⟨gl, db, m | ⟨m, bt, nn⟩⟩ := nm
          · exact ld_glob (X := X.suite x ((x, ob) :: (X.pn ++ pins))) inS gl m z db
          · exact ld_blt (X := X.suite x ((x, ob) :: (X.pn ++ pins))) inS gl m bt z nn db
        refine nameOf (looks.here ?_)
        cases yes with
        | false =>
          show wpAny _ X.A (handleBy (.ref x) X.env hs3) _ _ _
          exact ih (noW rfl)
        | true =>
          refine codeAny_handlers_suite_as ?_
          refine HandSPX.lands_againZ fly fun g4 fly4 us4 => ?_
          have I4 : Inv X pins τ G { s1 with heap := g4 } := I0.landed ng fly4.1 ((us.trans us2).trans us4) eos bare
          obtain ⟨ob4, vs4, gx4, zx4, dx4⟩ := fly4.there
          have inS4 := I4.suite gx4 dx4 nx xL xF
          refine store_ok (X := X.suite x ((x, ob4) :: (X.pn ++ pins))) (v := .ref x) inS4 nd at_ (.inl lc) rfl (fun s5 inS5 => ?_) (.inr lc)
          refine wpAny_mono ((suite x ob4 cl dd (X.pn ++ pins) zx4 ⟨_, dx4⟩).run [] s5 _ G _ inS5 (yesW rfl x nx)) (fun fl s6 got => ?_) (fun _ _ z => False.elim z)
          have gone : ∀ {τ6 : L2.St} {G6 : Hp} {Q : Shared → Prop}, Inv (X.suite x ((x, ob4) :: (X.pn ++ pins))) [] τ6 G6 s6 → (∀ s7, Inv X pins (τ6.set i none) G6 s7 → Q s7) →
              wpAny (model X.prog X.w) X.A (do bindName X.env n .none; unbindBehindTheSuite X.env n q) (fun _ s7 => Q s7) X.xe s6 := by
            intro τ6 G6 Q in6 z
            exact gone_ok (in6.unsuite okX) nd at_ lc z
          cases fl with
          | ret u =>
            obtain ⟨v6, τ6, G6, in6, r6, z⟩ := got
            exact gone in6 fun s7 I7 => ⟨_, _, _, I7, r6, z⟩
          | next =>
            obtain ⟨τ6, G6, in6, z⟩ := got
            exact gone in6 fun s7 I7 => ⟨_, _, I7, z⟩
          | brk =>
            obtain ⟨τ6, G6, in6, z⟩ := got
            exact gone in6 fun s7 I7 => ⟨_, _, I7, z⟩
          | cont =>
            obtain ⟨τ6, G6, in6, z⟩ := got
            exact gone in6 fun s7 I7 => ⟨_, _, I7, z⟩
    exact walkC cs want2
  refine wpAny_mono ((hb (wAll X.K i Wo D l) (X.pn ++ pins) after caught PassesOwn.looking).run [] s σ H D (I.toTry _) want) (fun fl s1 got => ?_) (fun _ _ z => z)
  cases fl with
  | ret u =>
    obtain ⟨v, τ, G, I2, r2, z⟩ := got
    exact ⟨v, τ, G, I2.ofTry okX, r2, z⟩
  | next =>
    obtain ⟨τ, G, I2, z⟩ := got
    exact wpAny_execs_nil ⟨τ, G, I2.ofTry okX, z⟩
  | brk =>
    obtain ⟨τ, G, I2, z⟩ := got
    exact ⟨τ, G, I2.ofTry okX, z⟩
  | cont =>
    obtain ⟨τ, G, I2, z⟩ := got
    exact ⟨τ, G, I2.ofTry okX, z⟩
end
/-! ### isinstance of the error that a suite holds, with a dict or without -/
def rIsH (K : PySem.W.Frag) (a : Addr) (cls : Value) (d : Option Addr) : List V → Hp → VK → Prop := fun xs H Q => ∃ (C : Addr) (c : V) (cv : Value) (b : Bool), xs = [.ref a, c] ∧ ClsV c cv ∧ cls = .ref C ∧ ExcC K C ∧
  (∀ dx, d = some dx → ∃ fs, H dx = some (.xd fs)) ∧ PySem.W.kitOne K (.ref C) cv = some b ∧ Q (.bl b) H
theorem call_isH {X : Cx} {a : Addr} {cls : Value} {d : Option Addr} {oe : Obj} {pn : List (Addr × Obj)} (hz : Zc cls d oe) (hf : ∃ vs, oe.data = .fields vs) : CallR (X.suite a ((a, oe) :: pn)) (.builtin "isinstance") (rIsH X.K a cls d) := by
  intro pins s σ H xs us Q I r h
  obtain ⟨C, c, cv, b, rfl, k, rfl, T, hd, e, q⟩ := h
  obtain ⟨u1, u2, rfl, r1, r2⟩ := vals2 r
  have e2 := k.eq r2
  subst e2
  cases (show u1 = Value.ref a from r1)
  obtain ⟨ha, _⟩ := I.pin (a, oe) (List.mem_append_left _ List.mem_cons_self)
  obtain ⟨vs, hv⟩ := hf
  have nocls : PySem.W.notCls oe = true := by unfold PySem.W.notCls; rw [hv] <;> rfl
  obtain ⟨od, J⟩ : ∃ od, PySem.W.InstAt s.heap a oe C od := by
    cases d with
    | none => exact ⟨none, ha, hz.1, nocls, by rw [hz.2]; trivial⟩
    | some dx =>
      obtain ⟨fs, hx⟩ := hd dx rfl
      obtain ⟨mA, hns, _⟩ := (show ObjOk X.prog X.w H s.heap dx (.xd fs) from I.hok dx _ hx)
      obtain ⟨od, hod, _⟩ := lookIn_ns hns
      exact ⟨some od, ha, hz.1, nocls, by rw [hz.2]; exact hod⟩
  have hcl : (PySem.W.clsIn X.K C).isSome = true := by
    obtain ⟨cd, hc, _⟩ := PySem.W.any_some T.hd
    rw [hc]
    rfl
  exact PySem.W.kia_one (PySem.W.kitx_exc hcl T.hg T.hk T.hs T.ha T.hn T.ht T.hm) I.kIn J e (fun z => nomatch z) fun tk => ⟨.bl b, H, I.tok tk, rfl, q⟩
end HX

set_option Elab.async false
set_option linter.all false
set_option maxRecDepth 100000
set_option maxHeartbeats 2000000
/-! errors whose context is None (HandS.ExcCtx), and unpacking within an except suite -/
namespace HX
open PySem PySem.Spec PyProof.Rows L2
theorem takes0N {X : Cx} : L2N.Takes X (fun _ _ _ _ => False) := fun _ _ x => by
  obtain ⟨_, _, _, _, _, _, _, _, _, _, _, _, _, _, _, _, z⟩ := x
  exact z.elim
section
variable {P : Program} {w : World} {K : PySem.W.Frag} {mg : Str → Option Value} {base : Heap}
theorem okXN {x qual : Str} {st : Stmt} {f : Addr} {fd : FuncData} {N ps : List Str} {k : Nat} {sp : Sp} (F : Fun K x qual st f fd) (S : FnScope N ps (defScope st)) (len : ∀ vs H Q E, sp vs H Q E → vs.length = ps.length)
    (hbody : ∀ (cdv : Value) (A : Around) (outer : List Env) (s : Shared) (H : Hp) (vs : List V) (Q : VK) (E : XK), Room k (A.deeper (envOfC qual (defScope st) s.heap.objs.size f cdv)) → sp vs H Q E →
      ∃ t, PSs (cxOf (L2N.CX P w) P w K mg base N qual (defScope st) f cdv A outer s H E) (defBody st) t ∧ t { nx := fun _ H' => Q .non H', rt := Q } (start N vs) H) : FnOk P w K mg base (L2N.CX P w) (k + 1) f fd ps sp := by
  obtain ⟨oc, od, kV, doc, pm, an, cdv, ct, osl, rfl, lk, hcd⟩ := F.ex
  exact fn_of lk hcd S len fun A outer s H vs Q E hr hsp => hbody cdv A outer s H vs Q E hr hsp
end
section
variable {X : Cx} {nmE fld : Str} {C fI : Addr}
theorem pmk_errN {a : Expr} {ta : TA} {p pos : Pos} {k : Nat} (T : SupX.ErrTxt X.prog X.K X.mg nmE fld C fI) (hr : Room k X.A) (ha : PA X [a] ta) (hg : Gl X nmE) (hdb : (nmE == ("__debug__" : Str)) = false)
    (he : starEach (a :: []) X.env = (false, eval a X.env) :: starEach [] X.env := by rfl) (hpl : (backTo pos (starEach [] X.env)).any (·.1) = false := by rfl) :
    L2N.PMk X (.Call (.Name nmE p) [a] [] pos) (tMkErr fld C ta) := by
  intro pins s σ H Q I h
  refine wpAny_Call_Name_kw (ld_glob I hg T.gC ?_ hdb)
  refine PySem.W.callWith_K (h₀ := X.base) I.ok.mod.kin T.kC (thn (ha.run pos pins s σ H _ I h) fun us s1 hh => ?_) he hpl
  obtain ⟨vs, H1, I1, r1, v, ev, q1⟩ := hh
  subst ev
  refine ⟨I1.kIn, ?_⟩
  cases r1 with
  | cons rv rn =>
    rename_i v' us'
    cases rn
    show wpAny _ _ (call (.ref C) [v']) _ _ _
    have G1 := gnd_of I1
    obtain ⟨hp, g, dr, tk, os⟩ := s1
    refine wpAny_call (SupX.sup_made T I1.kIn G1 (by have := hr.dp; omega) fun h' tk' e d M => ?_)
    show L2N.MkP X pins σ Q (.ref e) ⟨h', g, dr, tk', os⟩
    obtain ⟨t1, hoe⟩ := M.obj
    have hns := M.ns
    obtain ⟨G', g1, g2⟩ := restrict h' fun b => decide (b ≠ e)
    have gk : ∀ b, b ≠ e → G'.get? b = h'.get? b := fun b hb => g1 b (decide_eq_true hb)
    have ge : G'.get? e = none := g2 e (by simp)
    have old : ∀ b o, hp.get? b = some o → G'.get? b = some o := fun b o q => (gk b (Nat.ne_of_lt (Nat.lt_of_lt_of_le (Heap.lt_size q) M.new))).trans (M.keep b o q)
    have ob : ObjOk X.prog X.w (upd H1 d (.xd [(fld, v)])) G' d (.xd [(fld, v)]) :=
      ⟨_, hns.at (fun o q => (gk d M.dne).trans q), fun f => relO_fld rv f⟩
    have J : Inv X pins σ (upd H1 d (.xd [(fld, v)])) ⟨G', g, dr, tk', os⟩ := I1.laid (t' := tk') old M.dbig ob
    refine ⟨e, _, _, ⟨G', g, dr, tk', os⟩, _, .ref C, some d, rfl, J, fun b o q => ?_, ge, hoe, ⟨rfl, rfl, fun vs q => by cases q; rfl⟩, rfl, rfl, ?_, rfl, I1.bare, raises_own T.exC T.tyC, q1 d (I1.hok.fresh M.dbig)⟩
    · by_cases hb : b = e
      · have q' : G'.get? b = some o := q
        rw [hb, ge] at q'; cases q'
      · exact (gk b hb).symm.trans q
    · rw [upd_ne (Ne.symm M.dne)]
      exact I1.hok.fresh M.new
theorem ps_raiseErrN {a : Expr} {ta : TA} {W : WX} {p pos pos2 : Pos} {k : Nat} (hc : X.calm = true) (T : SupX.ErrTxt X.prog X.K X.mg nmE fld C fI) (hr : Room k X.A) (tk : L2N.Takes X W) (ha : PA X [a] ta) (hg : Gl X nmE := by rfl) (hdb : (nmE == ("__debug__" : Str)) = false := by decide)
    (he : starEach (a :: []) X.env = (false, eval a X.env) :: starEach [] X.env := by rfl) (hpl : (backTo pos (starEach [] X.env)).any (·.1) = false := by rfl) :
    PS X (.Raise (some (.Call (.Name nmE p) [a] [] pos)) none pos2) (tRaiseErr fld C W ta) 
  := L2N.ps_raise hc tk (pmk_errN T hr ha hg hdb he hpl)

end
section
variable {prog : Program} {w : World} {A : Around} {E : Value → Shared → Prop} {s : Shared}
open HotX
theorem tup_end_hot {it t x1 : Addr} {i : Nat} {items : Array Value} {Q : Option Value → Shared → Prop} (hot : HotAt A x1 s.heap) (ne : x1 ≠ it) (hit : IsTupIter s.heap it t i) (ht : IsTup s.heap t items) (hx : items[i]? = none)
    (hQ : ∀ h', Heap.ExtBut it s.heap h' → Q none { s with heap := h' }) : wpAny (model prog w) A (pyNext (.ref it)) Q E s := by
  obtain ⟨o, ho, hc, hd⟩ := id hit
  obtain ⟨ol, hol, _, nl, hdl⟩ := ht
  obtain ⟨hh, o1, vs1, h1, d1, c1⟩ := hot
  unfold pyNext
  refine wpAny_bind (wpAny_attempt (wpAny_callSpecial?_slot (name := Str.ofString "__next__") hit.typeIs slot_tupleiter_next
    (wpAny_call_entry slot_tupleiter_next hit.typeIs entry_tupleiter_next ?_ (args_tupleiter_next _))))
  show wpAny _ _ (field (.ref it) 0 >>= _) _ _ s
  refine wpAny_bind (wpAny_field ho hd (x := .ref t) rfl ?_)
  show wpAny _ _ (if (Value.ref t == Value.none) = true then _ else _) _ _ s
  rw [if_neg (show ¬ ((Value.ref t == Value.none) = true) from Bool.false_ne_true)]
  show wpAny _ _ (field (.ref it) 1 >>= _) _ _ s
  refine wpAny_bind (wpAny_field ho hd (x := .int i 0) rfl ?_)
  show wpAny _ _ (seqItems? (.ref t) >>= _) _ _ s
  refine wpAny_bind (wpAny_seqItems hol hdl ?_)
  simp only [Int.toNat_natCast, hx]
  refine wpAny_bind (wpAny_rule (wpAny_bind (wpAny_setField ho hd (by simp) ?_)))
  have g1 : ∀ f, (s.heap.update it f).get? x1 = some o1 := fun f => (Heap.get?_update_other _ _ (Ne.symm ne)).trans h1
  show wpAny _ _ (newExc (.type "StopIteration") [] >>= _) _ _ _
  refine wpAny_bind ?_
  simp only [newExc, newTuple]
  refine wpAny_bind (wpAny_newObj_type ?_ (by size_fits))
  refine wpAny_bind (m := firstArgMember _ _) (wpAny_of_eq (a := Value.none) (by first | rfl | (simp only [firstArgMember]; rfl)) ?_)
  refine wpAny_newObj_type ?_ (by size_fits)
  refine raiseNew_hot ⟨hh, o1, vs1, Heap.get?_push_of_some _ (Heap.get?_push_of_some _ (g1 _)), d1, c1⟩ (Nat.ne_of_lt (Heap.lt_size (Heap.get?_push_of_some _ (g1 _)))) (Heap.get?_push_size _ rfl) rfl (by first | (simp; done) | (simp; omega) | (simp only [Array.size_append]; simp; omega)) ?_
  refine wpAny_bind (wpAny_isInstance (T := "StopIteration") (b := true) ⟨_, Heap.get?_update_self _ (Heap.get?_push_size _ rfl) rfl, rfl⟩ isSubtype_stop ?_)
  refine wpAny_pure (hQ _ fun b ob nb e => ?_)
  have e1 : ∀ f, (s.heap.update it f).get? b = some ob := fun f => (Heap.get?_update_other _ _ (Ne.symm nb)).trans e
  rw [Heap.get?_update_other _ _ (Nat.ne_of_gt (Heap.lt_size (Heap.get?_push_of_some _ (e1 _))))]
  exact Heap.get?_push_of_some _ (Heap.get?_push_of_some _ (e1 _))
theorem unpack_hot {t x1 : Addr} {items : Array Value} {Q : List Value → Shared → Prop} (hot : HotAt A x1 s.heap) (ht : IsTup s.heap t items)
    (hQ : ∀ h', Heap.ExtBut s.heap.objs.size s.heap h' → Q items.toList { s with heap := h' }) : wpAny (model prog w) A (unpackItems (.ref t) items.size none) Q E s := by
  have hlt : t ≠ s.heap.objs.size := by obtain ⟨o, ho, _⟩ := ht; exact Nat.ne_of_lt (Heap.lt_size ho)
  obtain ⟨hh, o1, vs1, h1, d1, c1⟩ := hot
  have hx1 : x1 ≠ s.heap.objs.size := Nat.ne_of_lt (Heap.lt_size h1)
  unfold unpackItems
  refine wpAny_bind ?_
  unfold notIterableAtAll
  refine wpAny_bind (wpAny_specialOf ht.typeIs slot_tuple_iter.lookup (wpAny_pure ?_))
  simp only [Bool.false_eq_true, if_false]
  refine wpAny_bind (wpAny_holding (iter_tuple ht ?_))
  refine wpAny_bind (wpAny_holding (draw_tuple hlt items.size 0 _ _ ⟨_, Heap.get?_push_size _ rfl, rfl, rfl⟩ (ht.push _) (by omega) fun h₁ hit₁ hs₁ => ?_))
  have all : List.take items.size (List.drop 0 items.toList) = items.toList := by
    rw [List.drop_zero]
    exact List.take_of_length_le (by simp)
  rw [all, if_neg (by simp)]
  have ht₁ : IsTup h₁ t items := (ht.push _).extBut hs₁.extBut hlt
  refine wpAny_bind (wpAny_holding (tup_end_hot ⟨hh, o1, vs1, hs₁.extBut x1 o1 hx1 (Heap.get?_push_of_some _ h1), d1, c1⟩ hx1 hit₁ ht₁ (by simp) fun h₂ he₂ => ?_))
  simp only [Option.isSome_none, Bool.false_eq_true, if_false]
  exact wpAny_pure (hQ _ fun b o hb e => he₂ b o hb (hs₁.extBut b o hb (Heap.get?_push_of_some _ e)))
end
/-- a, b = x, y within an except suite -/
theorem ps_parH {X : Cx} {i j : Nat} {x y : Str} {a b : Expr} {ta : TA} {px py pt pos : Pos} {kt k2 pt2} (hot : L2H.HotC X) (hN : X.N.Nodup) (hi : X.N[i]? = some x) (hj : X.N[j]? = some y) (hij : i ≠ j)
    (hx : X.env.scope.names.lookup x = some .local) (hy : X.env.scope.names.lookup y = some .local) (ha : PA X [a, b] ta)
    (hw : swappedStores [.Tuple [.Name x px, .Name y py] kt pt] (.Tuple [a, b] k2 pt2) X.env = pure (some [x, y]))
    (hs : swapsWithSole [.Tuple [.Name x px, .Name y py] kt pt] (.Tuple [a, b] k2 pt2) pos.line X.env = pure false := by rfl) :
    PS X (.Assign [.Tuple [.Name x px, .Name y py] kt pt] (.Tuple [a, b] k2 pt2) pos) (tPar i j ta) := by
  refine ⟨fun pins s σ H D I h => ?_⟩
  rw [exec_Assign_arm]
  refine wpAny_bind (wpAny_standAt ?_)
  rw [hs]
  refine wpAny_bind (wpAny_pure ?_)
  rw [if_neg (by decide)]
  refine wpAny_bind (Tuple_ (thn (ha.run _ pins s σ H _ I h) fun us s1 ⟨vs, H1, I1, r1, q1⟩ => ?_))
  obtain ⟨v, w, rfl, q1⟩ := q1
  obtain ⟨u1, u2, rfl, rv, rw'⟩ := vals2 r1
  refine wpAny_newObj_type ?_ (by show 2 ≤ sizeLine; decide)
  have I2 : Inv X pins σ H1 { s1 with heap := s1.heap.push { cls := .type "tuple", data := .seq [u1, u2].toArray } } := I1.kept (t' := s1.toks) fun b o e => Heap.get?_push_of_some _ e
  rw [hw]
  refine wpAny_bind (wpAny_pure ?_)
  obtain ⟨x1, ht⟩ := hot.at I2
  show wpAny (model X.prog X.w) X.A (do rule "assign.swapped-stores"; let items ← unpackItems (.ref s1.heap.objs.size) 2 none; assignInOrder [fun v => bindName X.env y v, fun v => bindName X.env x v] items.reverse; pure Flow.next) _ _ _
  refine wpAny_bind (wpAny_rule (wpAny_bind (unpack_hot (items := #[u1, u2]) ht (IsTup.new s1.heap _) fun h' hx' => ?_)))
  have I3 := I2.kept (h' := h') (t' := s1.toks) fun b o e => hx' b o (Nat.ne_of_lt (Heap.lt_size e)) e
  show wpAny _ _ (assignInOrder [fun v => bindName X.env y v, fun v => bindName X.env x v] [u2, u1] >>= fun _ => pure Flow.next) _ _ _
  refine wpAny_bind (assignInOrder_cons (wpAny_bindName (store_ok I3 hN hj (.inl hy) rw' (fun s2 I4 => ?_) (.inr hy))))
  refine assignInOrder_cons (wpAny_bindName (store_ok I4 hN hi (.inl hx) rv (fun s3 I5 => assignInOrder_nil (wpAny_pure ?_)) (.inr hx)))
  rw [List.set_comm _ _ (Ne.symm hij)] at I5
  exact ⟨_, H1, I5, q1⟩
theorem hotC_of {X : Cx} {a : Addr} {oe : Obj} {cls : Value} {d : Option Addr} {pn : List (Addr × Obj)} (hz : L2N.Zn cls d oe) (hf : ∃ vs, oe.data = .fields vs) : L2H.HotC (X.suite a ((a, oe) :: pn)) :=
  let ⟨vs, h⟩ := hf; ⟨(a, oe), ⟨rfl, vs, h, hz.2.2 vs h⟩, List.mem_cons_self⟩
inductive ClausesN (X : Cx) (n : Str) : List ExceptHandler → List (Value × (Addr → Value → Option Addr → TS)) → Prop
  | nil : ClausesN X n [] []
  | cons {x : Str} {c : Value} {t : Addr → Value → Option Addr → TS} {b : Stmt} {bs : List Stmt} {p q : Pos} {hs : List ExceptHandler} {l : List (Value × (Addr → Value → Option Addr → TS))} (nm : Names X x c)
      (body : ∀ (x : Addr) (ob : Obj) (cl : Value) (dd : Option Addr) (pn : List (Addr × Obj)), L2N.Zn cl dd ob → (∃ vs, ob.data = .fields vs) → PSs (X.suite x ((x, ob) :: pn)) (b :: bs) (t x cl dd)) (more : ClausesN X n hs l) :
      ClausesN X n (.ExceptHandler (some (.Name x p)) (some n) (b :: bs) q :: hs) ((c, t) :: l)
section
variable {X : Cx} {n : Str} {i : Nat} {body : List Stmt} {h1 : ExceptHandler} {hs : List ExceptHandler} {l : List (Value × (Addr → Value → Option Addr → TS))} {pos : Pos} {tb : WX → TS} {Wo : WX}
theorem ps_try_allN (st : X.stack = X.env :: X.outer) (fr : X.env.frame = some X.env.locals) (nd : X.N.Nodup) (at_ : X.N[i]? = some n) (lc : X.env.kindOf n = some .local) (out : L2N.Takes X Wo)
    (hb : ∀ (W : WX) (pn : List (Addr × Obj)) (xe : Value → Shared → Prop), L2N.Takes (X.tr pn xe) W → PassesOwn (model X.prog X.w) X.A X.env xe → PSs (X.tr pn xe) body (tb W)) (cs : ClausesN X n (h1 :: hs) l) :
    PS X (.Try body (h1 :: hs) [] [] pos) (fun D σ H => tb (wAll X.K i Wo D l) D σ H) := by
  constructor
  intro pins s σ H D I want
  have okX := I.ok
  have frs1 : X.A.frames = some (X.env :: X.outer) := okX.frames.trans (by rw [st])
  refine wpAny_Try_except ?_
  let after : Value → Shared → Prop := fun u s1 => wpAny (model X.prog X.w) X.A (noteFrame u X.env) (fun _ s2 =>
    wpAny (model X.prog X.w) X.A (setFlight u none) (fun _ s3 => wpAny (model X.prog X.w) X.A (handleBy u X.env (h1 :: hs)) (SP X pins D) X.xe s3) X.xe s2) X.xe s1
  have caught : L2N.Takes (X.tr (X.pn ++ pins) after) (wAll X.K i Wo D l) := by
    rintro u s1 ⟨x, gr, s0, pins2, τ, G, cl, dd, rfl, I2, ng, us, sk, nx, eos, bare, want2⟩
    have I0 : Inv X pins τ G s0 := I2.ofTry okX
    rw [show (X.tr (X.pn ++ pins) after).stack = X.env :: X.outer from st] at sk
    show wpAny (model X.prog X.w) X.A (noteFrame (.ref x) X.env) _ _ _
    refine L2N.Sky.land L2N.Zn.steady frs1 fr sk fun g2 fly us2 => ?_
    have I3 : Inv X pins τ G { s1 with heap := g2 } := I0.landed ng fly.1 (us.trans us2) eos bare
    obtain ⟨ob, vs, gx, zx, dx⟩ := fly.there
    have apart : x ∉ frs (X.env :: X.outer) := by
      intro m
      obtain ⟨_, o2, e2, nf⟩ := fly.2.2.1.mem m
      rw [gx] at e2
      cases e2
      exact nf _ dx
    have xL : x ≠ X.env.locals := fun z => apart (List.mem_filterMap.mpr ⟨X.env, List.mem_cons_self, by rw [fr, z]⟩)
    have xF : x ∉ X.fs := by
      intro m
      obtain ⟨e2, m2, q2⟩ := List.mem_filterMap.mp m
      exact apart (List.mem_filterMap.mpr ⟨e2, List.mem_cons_of_mem _ m2, q2⟩)
    have inS := I3.suite gx dx nx xL xF
    have walkC : ∀ {hs2 : List ExceptHandler} {l2 : List (Value × (Addr → Value → Option Addr → TS))}, ClausesN X n hs2 l2 → wAll X.K i Wo D l2 cl dd τ G →
        wpAny (model X.prog X.w) X.A (handleBy (.ref x) X.env hs2) (SP X pins D) X.xe { s1 with heap := g2 } := by
      intro hs2 l2 c2
      induction c2 with
      | nil =>
        intro w
        refine wpAny_handleBy_nil ?_
        obtain ⟨_, _, _, ob2, vs2, Tb, oTb, ts2, gx2, _, dx2, v1, _⟩ := id fly
        unfold PySem.passOn
        refine wpAny_bind (wpAny_field gx2 dx2 v1 ?_)
        have isnt : ¬ ((Value.ref Tb == Value.none) = true) := by simp
        rw [if_neg isnt]
        have leave : wpAny (model X.prog X.w) X.A (setFlight (.ref x) X.env.frame) (fun _ s4 => wpAny (model X.prog X.w) X.A (throw (.ref x) : Sem Flow) (SP X pins D) X.xe s4) X.xe { s1 with heap := g2 } := by
          rw [fr]
          refine HandSPX.setFlight_upZ fly fun g4 held us4 => ?_
          refine wpAny_throw (out _ _ ?_)
          refine ⟨x, gr, s0, pins, τ, G, cl, dd, rfl, I0, ng, (us.trans us2).trans us4, ?_, nx, eos, bare, w⟩
          rw [st]
          exact .inr (.inr held)
        first
          | exact wpAny_bind leave
          | exact wpAny_bind (wpAny_pure (wpAny_bind leave))
      | @cons xn c t b bs p q hs3 l3 nm suite more ih =>
        intro w
        obtain ⟨yes, match_, yesW, noW⟩ := w
        refine wpAny_handleBy_cons (codeAny_handlers_test ?_) (by intro z; cases z)
        have ty : PySem.W.Looks (model X.prog X.w) g2 (typeOf (.ref x)) cl := fun A Q E s4 k z => wpAny_typeOf_ref (k _ _ gx) (by rw [zx.1]; exact z)
        have looks := PySem.W.exm_one (M := model X.prog X.w) I3.kIn ty match_
        have nameOf : ∀ {Q : Value → Shared → Prop} {E : Value → Shared → Prop}, Q c { s1 with heap := g2 } → wpAny (model X.prog X.w) (X.A.mark (some (.ref x))) (eval (.Name xn p) X.env) Q E { s1 with heap := g2 } := by
          intro Q E z
          obtain ⟨gl, db, m | ⟨m, bt, nn⟩⟩ := nm
          · exact ld_glob (X := X.suite x ((x, ob) :: (X.pn ++ pins))) inS gl m z db
          · exact ld_blt (X := X.suite x ((x, ob) :: (X.pn ++ pins))) inS gl m bt z nn db
        refine nameOf (looks.here ?_)
        cases yes with
        | false =>
          show wpAny _ X.A (handleBy (.ref x) X.env hs3) _ _ _
          exact ih (noW rfl)
        | true =>
          refine codeAny_handlers_suite_as ?_
          refine HandSPX.lands_againZ fly fun g4 fly4 us4 => ?_
          have I4 : Inv X pins τ G { s1 with heap := g4 } := I0.landed ng fly4.1 ((us.trans us2).trans us4) eos bare
          obtain ⟨ob4, vs4, gx4, zx4, dx4⟩ := fly4.there
          have inS4 := I4.suite gx4 dx4 nx xL xF
          refine store_ok (X := X.suite x ((x, ob4) :: (X.pn ++ pins))) (v := .ref x) inS4 nd at_ (.inl lc) rfl (fun s5 inS5 => ?_) (.inr lc)
          refine wpAny_mono ((suite x ob4 cl dd (X.pn ++ pins) zx4 ⟨_, dx4⟩).run [] s5 _ G _ inS5 (yesW rfl x nx)) (fun fl s6 got => ?_) (fun _ _ z => False.elim z)
          have gone : ∀ {τ6 : L2.St} {G6 : Hp} {Q : Shared → Prop}, Inv (X.suite x ((x, ob4) :: (X.pn ++ pins))) [] τ6 G6 s6 → (∀ s7, Inv X pins (τ6.set i none) G6 s7 → Q s7) →
              wpAny (model X.prog X.w) X.A (do bindName X.env n .none; unbindBehindTheSuite X.env n q) (fun _ s7 => Q s7) X.xe s6 := by
            intro τ6 G6 Q in6 z
            exact gone_ok (in6.unsuite okX) nd at_ lc z
          cases fl with
          | ret u =>
            obtain ⟨v6, τ6, G6, in6, r6, z⟩ := got
            exact gone in6 fun s7 I7 => ⟨_, _, _, I7, r6, z⟩
          | next =>
            obtain ⟨τ6, G6, in6, z⟩ := got
            exact gone in6 fun s7 I7 => ⟨_, _, I7, z⟩
          | brk =>
            obtain ⟨τ6, G6, in6, z⟩ := got
            exact gone in6 fun s7 I7 => ⟨_, _, I7, z⟩
          | cont =>
            obtain ⟨τ6, G6, in6, z⟩ := got
            exact gone in6 fun s7 I7 => ⟨_, _, I7, z⟩
    exact walkC cs want2
  refine wpAny_mono ((hb (wAll X.K i Wo D l) (X.pn ++ pins) after caught PassesOwn.looking).run [] s σ H D (I.toTry _) want) (fun fl s1 got => ?_) (fun _ _ z => z)
  cases fl with
  | ret u =>
    obtain ⟨v, τ, G, I2, r2, z⟩ := got
    exact ⟨v, τ, G, I2.ofTry okX, r2, z⟩
  | next =>
    obtain ⟨τ, G, I2, z⟩ := got
    exact wpAny_execs_nil ⟨τ, G, I2.ofTry okX, z⟩
  | brk =>
    obtain ⟨τ, G, I2, z⟩ := got
    exact ⟨τ, G, I2.ofTry okX, z⟩
  | cont =>
    obtain ⟨τ, G, I2, z⟩ := got
    exact ⟨τ, G, I2.ofTry okX, z⟩
end
end HX

set_option Elab.async false
set_option linter.all false
set_option maxRecDepth 100000
set_option maxHeartbeats 2000000

namespace Kx
open PySem PySem.Spec PyProof.Rows L2 HX TL
open Evl (Ex)
local macro_rules | `(tactic| walk_at "len") => `(tactic| first | assumption | exact le_line (by assumption) | exact le_line (by omega) | exact le_line (Nat.le_trans (cutS_length _ _ _) (by omega)) | (rw [sizeLine_eq]; omega))
local macro_rules | `(tactic| walk_at "side") => `(tactic| first | assumption | ((try dsimp only); first | assumption | decide +kernel | omega | exact ⟨by decide, by decide⟩ | (left; decide) | (left; omega) | (refine Or.inl ⟨?_, ?_⟩ <;> omega) | (refine Or.inr ⟨?_, ?_⟩ <;> omega)))
local macro_rules | `(tactic| walk_at "heap") => `(tactic| first | assumption | exact upd_same | exact Or.inl (by assumption) | exact Or.inl upd_same)
local macro_rules | `(tactic| walk_at "item") => `(tactic| first | exact rfl | exact atI_nat (j := 0) rfl | exact atI_nat (j := 1) rfl | exact atI_nat (j := 2) rfl | assumption)
local macro_rules | `(tactic| walk_at "rd") => `(tactic| repeat (first
  | ((with_reducible refine' go_var ?hv ?_); (case hv => exact rfl))
  | with_reducible refine' go_c ?_
  | with_reducible refine' go_op ?_
  | with_reducible refine' go_seq ?_
  | with_reducible refine' go_asg ?_
  | with_reducible refine' go_name ?_
  | with_reducible refine' go_cons ?_
  | with_reducible refine' go_nil ?_
  | with_reducible refine' go_cb ?_
  | with_reducible refine' go_call ?_
  | with_reducible refine' go_ifS ?_
  | with_reducible refine' go_test ?_
  | with_reducible refine' go_bl ?_
  | with_reducible refine' go_ret ?_
  | with_reducible refine' go_I0 ?_
  | ((with_reducible refine' go_I ?cc ?_); (case cc => walk_at "side"))
  | ((with_reducible refine' go_ixL ?hh ?hk ?_); (case hh => walk_at "heap"); (case hk => walk_at "item"))
  | ((with_reducible refine' go_ixT ?hh ?hk ?_); (case hh => walk_at "heap"); (case hk => walk_at "item"))
  | ((with_reducible refine' go_lenL ?hh ?_); (case hh => walk_at "heap"))
  | ((with_reducible refine' go_lenT ?hh ?_); (case hh => walk_at "heap"))
  | ((with_reducible refine' go_setL ?hh ?hk ?_); (case hh => walk_at "heap"); (case hk => walk_at "item"))
  | with_reducible refine' go_abs ?_
  | with_reducible refine' go_max ?_
  | with_reducible refine' go_min ?_
  | with_reducible refine' go_int ?_
  | with_reducible refine' go_intB ?_
  | (with_reducible refine' go_eq rfl ?_)
  | (with_reducible refine' go_ne rfl ?_)
  | with_reducible refine' go_isN ?_
  | with_reducible refine' go_notN ?_
  | with_reducible refine' go_if ?_
  | with_reducible refine' go_sub ?_
  | with_reducible refine' go_par ?_
  | with_reducible refine' go_sl ?_
  | with_reducible refine' go_part ?_
  | with_reducible refine' go_pint ?_
  | with_reducible refine' go_nopart ?_
  | ((with_reducible refine' go_lenL ?hh ?_); (case hh => walk_at "heap"))
  | ((with_reducible refine' go_lenT ?hh ?_); (case hh => walk_at "heap"))
  | ((with_reducible refine' go_lenS ?hh ?_); (case hh => assumption))
  | with_reducible refine' go_gcons ?_
  | with_reducible refine' go_gnil ?_
  | with_reducible refine' go_kw ?_
  | with_reducible refine' go_par2 ?_
  | with_reducible refine' go_next ?_
  | with_reducible refine' go_drop ?_
  | with_reducible refine' go_and ?_
  | with_reducible refine' go_or ?_
  | with_reducible refine' go_not ?_
  | with_reducible refine' go_B ?_
  | with_reducible refine' go_andV ?_
  | with_reducible refine' go_orV ?_
  | with_reducible refine' go_notV ?_
  | with_reducible refine' go_chain ?_
  | with_reducible refine' go_un ?_
  | with_reducible refine' go_U ?_
  | with_reducible refine' go_bm ?_
  | with_reducible refine' go_tup ?_
  | with_reducible refine' go_lst ?_
  | with_reducible refine' go_forR1 ?_
  | with_reducible refine' go_forR2 ?_
  | with_reducible refine' go_forL ?_
  | with_reducible refine' go_forT ?_
  | with_reducible refine' go_forE ?_
  | with_reducible refine' go_lcR1 ?_
  | with_reducible refine' go_lcL ?_
  | with_reducible refine' go_lcT ?_
  | ((with_reducible refine' go_tyL ?hh ?_); (case hh => walk_at "heap"))
  | ((with_reducible refine' go_new ?hz ?_); (case hz => exact Nat.le_of_ble_eq_true rfl))
  | with_reducible refine' go_par3 ?_
  | with_reducible refine' go_three ?_
  | with_reducible refine' go_m1 ?_
  | with_reducible refine' go_isS ?_
  | with_reducible refine' go_rSw ?_
  | with_reducible refine' go_rFnd ?_
  | ((with_reducible refine' go_rPrt (by decide +kernel) ?hz ?_); (case hz => walk_at "len"))
  | ((with_reducible refine' go_rSpl (by decide +kernel) ?hz ?_); (case hz => walk_at "len"))
  | ((with_reducible refine' go_rLenS ?hz ?_); (case hz => walk_at "len"))
  | ((with_reducible refine' go_slS ?hz ?_); (case hz => walk_at "len"))
  | with_reducible refine' go_sgn ?_
  | with_reducible refine' go_nsg ?_
  | with_reducible refine' go_lcS ?_
  | (with_reducible refine' ⟨_, rfl, ?_⟩)
  ))
--MACEND
/-! ### a def that may raise, called by its name -/
def HasX (P : Program) (w : World) (K : PySem.W.Frag) (mg : Str → Option Value) (base : Heap) (k : Nat) (x : Str) (sp : Sp) : Prop :=
  ∃ (f : Addr) (fd : FuncData) (ps : List Str), FnOk P w K mg base (L2N.CX P w) k f fd ps sp ∧ mg x = some (.ref f) ∧ PySem.W.keepIn K (.ref f) = true ∧ Binds K fd ps []
section
variable {X : Cx} {k n : Nat} {sp : Sp} {x : Str} {p pos : Pos} {e : Expr} {es : List Expr} {t : TA} {E : L2.St → XK}
theorem pe_hsS (h : HasX X.prog X.w X.K X.mg X.base k x sp) (hr : Room n X.A) (hg : Gl X x) (hx : ∀ σ, PassesAt (L2N.CX X.prog X.w) X σ (E σ)) (ha : PA X (e :: es) t) (hkn : k ≤ n := by decide) (hdb : (x == ("__debug__" : Str)) = false := by decide)
    (he : starEach (e :: es) X.env = (false, eval e X.env) :: starEach es X.env := by rfl) (hpl : (backTo pos (starEach es X.env)).any (·.1) = false := by rfl) :
    PE X (.Call (.Name x p) (e :: es) [] pos) (tCallS sp E t) := by
  obtain ⟨f, fd, ps, F, hm, hk, hb⟩ := h
  exact pe_callS F (hr.mono hkn) hg hm hk hb hx ha hdb he hpl
end
theorem go_callS {sp : Sp} {E : L2.St → XK} {t : TA} {σ : L2.St} {H : Hp} {Q : VK} (h : t σ H fun vs H1 => sp vs H1 Q (E σ)) : tCallS sp E t σ H Q := h
theorem go_raiseErr {fld : Str} {C : Addr} {W : WX} {ta : TA} {D : Ends} {σ : L2.St} {H : Hp} (h : ta σ H fun vs H1 => ∃ v, vs = [v] ∧ ∀ d, H1 d = none → W (.ref C) (some d) σ (upd H1 d (.xd [(fld, v)]))) : tRaiseErr fld C W ta D σ H := h
/-! ### lists of tuples -/
inductive Tps (H : Hp) : List V → List (List V) → Prop
  | nil : Tps H [] []
  | cons {a : Addr} {t : List V} {xs : List V} {ts : List (List V)} : H a = some (.tup t) → Tps H xs ts → Tps H (.ref a :: xs) (t :: ts)
theorem Tps.ex {H H' : Hp} (e : Ex H H') : ∀ {xs ts}, Tps H xs ts → Tps H' xs ts
  | _, _, .nil => .nil
  | _, _, .cons h t => .cons (e _ _ h) (t.ex e)
theorem Tps.mut {H : Hp} {l : Addr} {ys : List V} {o : HO} (hl : H l = some (.lst ys)) : ∀ {xs ts}, Tps H xs ts → Tps (upd H l o) xs ts
  | _, _, .nil => .nil
  | _, _, .cons h t => .cons (by rw [upd_ne fun z => by rw [z, hl] at h; cases h]; exact h) (t.mut hl)
theorem Tps.snoc {H : Hp} {a : Addr} {t : List V} (h : H a = some (.tup t)) : ∀ {xs ts}, Tps H xs ts → Tps H (xs ++ [.ref a]) (ts ++ [t])
  | _, _, .nil => .cons h .nil
  | _, _, .cons g r => .cons g (r.snoc h)
theorem Tps.len {H : Hp} : ∀ {xs ts}, Tps H xs ts → xs.length = ts.length
  | _, _, .nil => rfl
  | _, _, .cons _ t => by simp [t.len]
theorem Tps.get {H : Hp} : ∀ {xs ts} {i : Nat} {v : V}, Tps H xs ts → xs[i]? = some v → ∃ a t, ts[i]? = some t ∧ v = .ref a ∧ H a = some (.tup t)
  | _, _, _, _, .nil, e => by simp at e
  | _, _, 0, _, .cons h t, e => by simp at e; exact ⟨_, _, rfl, e.symm, h⟩
  | _, _, i + 1, v, .cons h t, e => by
    obtain ⟨a, t', h1, h2, h3⟩ := Tps.get (i := i) (v := v) t (by simpa using e)
    exact ⟨a, t', by simpa using h1, h2, h3⟩
theorem stg_dq {G : Hp} {q : Addr} {s : Stg} (h : G q = some (.tup s.vals)) : Dq G (.ref q) s.d := by
  cases s with
  | mix lo => exact .tup (.inl h) (.cons (.str _) (.cons (.int _) .nil))
  | dial x => exact .tup (.inl h) (.cons (.str _) (.cons (.int _) .nil))
  | pass lo hi => exact .tup (.inl h) (.cons (.str _) (.cons (.int _) (.cons (.int _) .nil)))
theorem lk_dq {G : Hp} {q : Addr} {l : Lk} (h : G q = some (.tup l.vals)) : Dq G (.ref q) l.d := by
  obtain ⟨d, b⟩ := l
  cases b with
  | none => exact .tup (.inl h) (.cons (.int _) (.cons .non (.cons .non .nil)))
  | some b => exact .tup (.inl h) (.cons (.int _) (.cons (.int _) (.cons (.int _) .nil)))
theorem tps_stgs {G : Hp} : ∀ {xs : List V} {ss : List Stg}, Tps G xs (ss.map Stg.vals) → DqAll G xs (ss.map Stg.d)
  | _, [], h => by cases h; exact .nil
  | _, s :: ss, h => by cases h with | cons h t => exact .cons (stg_dq h) (tps_stgs t)
theorem tps_lks {G : Hp} : ∀ {xs : List V} {ls : List Lk}, Tps G xs (ls.map Lk.vals) → DqAll G xs (ls.map Lk.d)
  | _, [], h => by cases h; exact .nil
  | _, s :: ss, h => by cases h with | cons h t => exact .cons (lk_dq h) (tps_lks t)
/-! ### where the dial stage stands -/
def dialAt : List Stg → Nat → Option Int
  | [], _ => none
  | s :: ss, i => if s.isDial then some i else dialAt ss (i + 1)
theorem dialAt_none : ∀ (ss : List Stg) (i : Nat), dialAt ss i = none ↔ dials ss = 0
  | [], i => by simp [dialAt, dials]
  | s :: ss, i => by
    have ih := dialAt_none ss (i + 1)
    rw [dialAt]
    unfold dials at ih ⊢
    cases h : s.isDial with
    | true => simp [h]
    | false => rw [if_neg (by simp), ih]; simp [h]
def spDialAt : Sp := fun vs H Q _ => ∃ x ss, vs = [x] ∧ Dq H x (.list (ss.map Stg.d)) ∧ ∀ H', Ex H H' → Q (optV (dialAt ss 0)) H'
def words (t : Str) : List (List Nat) := (Txt.split t (Str.ofString " ")).map tl
def spWords (C : Addr) : Sp := fun vs H Q E => ∃ x d, vs = [x] ∧ Dq H x d ∧ (∀ t, d = .str t → t.length ≤ 1000000 ∧ ∀ p H', Ex H H' → H p = none → H' p = some (.lst ((Txt.split t (Str.ofString " ")).map V.str)) → Q (.ref p) H') ∧
  (pStr d = false → ∀ H' dd, Ex H H' → H dd = none → H' dd = some (.xd [("word", .non)]) → E (.ref C) (some dd) H')
section
variable {P : Program} {w : World} {K : PySem.W.Frag} {mg : Str → Option Value} {base : Heap} {tD tM tS tL : Tok} {CS fI : Addr}
theorem dqaS_get {H : Hp} : ∀ {vs : List V} {ss : List Stg} {i : Nat} {v : V}, DqAll H vs (ss.map Stg.d) → vs[i]? = some v → ∃ s, ss[i]? = some s ∧ Dq H v s.d := fun {vs ss i v} h e => by
  obtain ⟨d, hd, hv⟩ := h.get e
  rw [List.getElem?_map] at hd
  cases hs : ss[i]? with
  | none => rw [hs] at hd; cases hd
  | some s => rw [hs] at hd; cases hd; exact ⟨s, rfl, hv⟩
theorem dialAt_drop {ss : List Stg} {i : Nat} {s : Stg} (h : ss[i]? = some s) (hd : s.isDial = false) : dialAt (ss.drop i) i = dialAt (ss.drop (i + 1)) (i + 1) := by
  obtain ⟨hlt, e⟩ := List.getElem?_eq_some_iff.mp h
  rw [List.drop_eq_getElem_cons hlt, e, dialAt, hd]
  rfl
theorem dialAt_hit {ss : List Stg} {i : Nat} {s : Stg} (h : ss[i]? = some s) (hd : s.isDial = true) : dialAt (ss.drop i) i = some (i : Int) := by
  obtain ⟨hlt, e⟩ := List.getElem?_eq_some_iff.mp h
  rw [List.drop_eq_getElem_cons hlt, e, dialAt, hd]
  rfl
abbrev s_dial_place : Stmt := top 15
theorem sc_dial_place : FnScope ["stages", "index", "stage"] ["stages"] (defScope s_dial_place) := ⟨rfl, rfl, rfl, by decide +kernel, rfl, by decide +kernel, by decide +kernel⟩
theorem ok_dial_place {f : Addr} {fd : FuncData} (F : Fun K "dial_place" "dial_place" s_dial_place f fd) (m_enumerate : mg "enumerate" = none) : FnOk P w K mg base CX0 1 f fd ["stages"] spDialAt := by
  refine F.ok sc_dial_place (fun vs H Q E h => ?_) (fun cdv A outer s H vs Q E hr h => ?_)
  · obtain ⟨x, ss, rfl, _⟩ := h
    rfl
  · obtain ⟨x, ss, rfl, hx, k⟩ := h
    refine ⟨_, (pss_cons (ps_for PassesOwn.never rfl (pi_enum (by rfl) m_enumerate (pa_cons (pv 0) pa_nil)) (pg_tup (by rfl) (pgs_cons (pg_name (i := 1) sc_dial_place.nd rfl (Or.inl rfl)) (pgs_cons (pg_name (i := 2) sc_dial_place.nd rfl (Or.inl rfl)) pgs_nil)))
  (pss_one (ps_if (pt_cmpR op_eq (pe_ix ix_tup (pv 2) pe_int (fun _ _ => rfl)) pe_str (nomark _))
  (pss_one (ps_ret (pv 1)))
  pss_nil)))
  (pss_one (ps_ret pe_non))), ?_⟩
    obtain ⟨l, ys, rfl, hl, hys⟩ := hx.listAt
    walk_at "rd"
    refine ⟨l, ys, rfl, .inl hl, ?_⟩
    refine run_forE ys (fun i σ G => ∃ (v1 v2 : Option V), σ = [some (.ref l), v1, v2] ∧ Ex H G ∧ dialAt ss 0 = dialAt (ss.drop i) i) ?_ ?_ ?_ ?_
    · exact ⟨_, _, rfl, Ex.refl _, by simp⟩
    · rintro i σ G _ ⟨v1, v2, rfl, e, _⟩
      exact .inl (Evl.ex_rd e hl)
    · rintro i y σ G Tp hi ⟨v1, v2, rfl, e, hs⟩ hT
      obtain ⟨st, hst, hy⟩ := dqaS_get hys hi
      have e2 := e.trans (Ex.new (o := HO.tup [.int (i : Nat), y]) hT)
      obtain ⟨a, xs, rfl, ha, hnm⟩ := stg_nm (hy.ex e2)
      refine go_gtup (.inl (.inl upd_same)) rfl ?_
      walk_at "rd"
      rw [nm_dial]
      cases hd : st.isDial with
      | true =>
        refine iteT ?_
        walk_at "rd"
        have := k _ e2
        rw [hs, dialAt_hit hst hd] at this
        exact this
      | false =>
        refine iteF ?_
        exact ⟨_, _, rfl, e2, by rw [hs, dialAt_drop hst hd]⟩
    · rintro σ G ⟨v1, v2, rfl, e, hs⟩
      walk_at "rd"
      have := k _ e
      rw [hs, show ss.drop ys.length = [] from List.drop_eq_nil_of_le (by rw [hys.len, List.length_map]; exact Nat.le_refl _)] at this
      exact this
abbrev s__may_follow : Stmt := top 36
theorem sc__may_follow : FnScope ["stages", "stage"] ["stages", "stage"] (defScope s__may_follow) := ⟨rfl, rfl, rfl, by decide +kernel, rfl, by decide +kernel, by decide +kernel⟩
theorem ok_may_follow {f : Addr} {fd : FuncData} (F : Fun K "_may_follow" "_may_follow" s__may_follow f fd) (m_len : mg "len" = none) (g_MOST_STAGES : mg "MOST_STAGES" = some (.int 8 tS)) (h_dial_place : Has P w K mg base 1 "dial_place" spDialAt) : FnOk P w K mg base CX0 2 f fd ["stages", "stage"] spMayF := by
  refine F.ok sc__may_follow (fun vs H Q E h => ?_) (fun cdv A outer s H vs Q E hr h => ?_)
  · obtain ⟨x, y, ss, s, rfl, _⟩ := h
    rfl
  · obtain ⟨x, y, ss, st, rfl, hx, hy, k⟩ := h
    refine ⟨_, (pss_one (ps_ret (pe_and (pe_cmpR op_lt (pe_callB call_lenQ rfl m_len PySem.boot_len (pa_cons (pv 0) pa_nil)) (pe_glob (v := .int 8) rfl g_MOST_STAGES ⟨_, rfl⟩) (nomark _)) (pe_one (pe_or (pe_cmpR op_ne (pe_ix ix_tup (pv 1) pe_int (fun _ _ => rfl)) pe_str (nomark _)) (pe_one (pe_cmpR op_isN1 (pe_hs h_dial_place hr rfl (pa_cons (pv 0) pa_nil)) pe_non (nomark _)))))))), ?_⟩
    obtain ⟨l, ys, rfl, hl, hys⟩ := id hx.listAt
    have hlen : ys.length = ss.length := by rw [hys.len, List.length_map]
    walk_at "rd"
    rw [hlen]
    have fin : ∀ H' (b : Bool), Ex H H' → mayF ss st = b → Q (.bl b) H' := fun H' b e h => h ▸ k H' e
    refine ite2 (fun c => ?_) (fun c => ?_)
    · have c8 : ss.length < 8 := by have := of_decide_eq_true c; omega
      obtain ⟨a, xs, rfl, ha, hnm⟩ := stg_nm hy
      walk_at "rd"
      rw [nm_dial]
      cases hd : st.isDial with
      | false =>
        refine iteT ?_
        exact fin _ _ (Ex.refl _) (by unfold mayF; rw [decide_eq_true c8, hd]; rfl)
      | true =>
        refine iteF ?_
        walk_at "rd"
        refine ⟨_, ss, rfl, hx, fun H1 e1 => ?_⟩
        walk_at "rd"
        refine fin _ _ e1 ?_
        unfold mayF
        rw [decide_eq_true c8, hd]
        have := dialAt_none ss 0
        cases h : dialAt ss 0 with
        | none => rw [decide_eq_true (this.mp h)]; simp [optV]
        | some i => rw [decide_eq_false (fun z => by rw [this.mpr z] at h; cases h)]; simp [optV]
    · have c8 : ¬ ss.length < 8 := fun z => c (decide_eq_true (by omega))
      exact fin _ _ (Ex.refl _) (by unfold mayF; rw [decide_eq_false c8]; rfl)
abbrev s__words_of : Stmt := top 33
theorem sc__words_of : FnScope ["text"] ["text"] (defScope s__words_of) := ⟨rfl, rfl, rfl, by decide +kernel, rfl, by decide +kernel, by decide +kernel⟩
theorem ok_words_of {f : Addr} {fd : FuncData} (F : Fun K "_words_of" "_words_of" s__words_of f fd) (T_InvalidSyntax : SupX.ErrTxt P K mg "InvalidSyntax" "word" CS fI) (m_isinstance : mg "isinstance" = none) (m_str : mg "str" = none) : FnOk P w K mg base (L2N.CX P w) 1 f fd ["text"] (spWords CS) := by
  refine okXN F sc__words_of (fun vs H Q E h => ?_) (fun cdv A outer s H vs Q E hr h => ?_)
  · obtain ⟨x, d, rfl, _⟩ := h
    rfl
  · obtain ⟨x, d, rfl, hd, k1, k2⟩ := h
    refine ⟨_, (pss_cons (ps_if (pt_not (pt_val (pe_callB call_isi rfl m_isinstance (by decide +kernel) (pa_cons (pv 0) (pa_cons (pe_bltn (v := .ty "str") (u := .type "str") rfl m_str (by decide +kernel) rfl) pa_nil)))))
  (pss_one (ps_raiseErrN rfl T_InvalidSyntax hr (L2N.takes_of rfl rfl rfl rfl) (pa_cons pe_non pa_nil)))
  pss_nil)
  (pss_one (ps_ret (pe_m1 PySem.F.slot_str_split PySem.F.type_str_split mt_spl (pv 0) pe_str)))), ?_⟩
    walk_at "rd"
    refine go_isi hd (kit_str d) ?_
    walk_at "rd"
    cases hp : pStr d with
    | false =>
      refine iteT ?_
      refine go_raiseErr ?_
      walk_at "rd"
      exact fun dd nd => k2 hp _ dd (Ex.new nd) nd upd_same
    | true =>
      obtain ⟨t, rfl⟩ : ∃ t, d = .str t := by cases d <;> simp [pStr] at hp; exact ⟨_, rfl⟩
      cases hd
      obtain ⟨hl, k⟩ := k1 t rfl
      refine iteF ?_
      walk_at "rd"
      intro p hp
      exact k p _ (Ex.new hp) hp upd_same
end
end Kx

set_option Elab.async false
set_option linter.all false
set_option maxRecDepth 100000
set_option maxHeartbeats 2000000

namespace Kx
open PySem PySem.Spec PyProof.Rows L2 HX TL
open Evl (Ex)
local macro_rules | `(tactic| walk_at "len") => `(tactic| first | assumption | exact le_line (by assumption) | exact le_line (by omega) | exact le_line (Nat.le_trans (cutS_length _ _ _) (by omega)) | (rw [sizeLine_eq]; omega))
local macro_rules | `(tactic| walk_at "side") => `(tactic| first | assumption | ((try dsimp only); first | assumption | decide +kernel | omega | exact ⟨by decide, by decide⟩ | (left; decide) | (left; omega) | (refine Or.inl ⟨?_, ?_⟩ <;> omega) | (refine Or.inr ⟨?_, ?_⟩ <;> omega)))
local macro_rules | `(tactic| walk_at "heap") => `(tactic| first | assumption | exact upd_same | exact Or.inl (by assumption) | exact Or.inl upd_same)
local macro_rules | `(tactic| walk_at "item") => `(tactic| first | exact rfl | exact atI_nat (j := 0) rfl | exact atI_nat (j := 1) rfl | exact atI_nat (j := 2) rfl | assumption)
local macro_rules | `(tactic| walk_at "rd") => `(tactic| repeat (first
  | ((with_reducible refine' go_var ?hv ?_); (case hv => exact rfl))
  | with_reducible refine' go_c ?_
  | with_reducible refine' go_op ?_
  | with_reducible refine' go_seq ?_
  | with_reducible refine' go_asg ?_
  | with_reducible refine' go_name ?_
  | with_reducible refine' go_cons ?_
  | with_reducible refine' go_nil ?_
  | with_reducible refine' go_cb ?_
  | with_reducible refine' go_call ?_
  | with_reducible refine' go_ifS ?_
  | with_reducible refine' go_test ?_
  | with_reducible refine' go_bl ?_
  | with_reducible refine' go_ret ?_
  | with_reducible refine' go_I0 ?_
  | ((with_reducible refine' go_I ?cc ?_); (case cc => walk_at "side"))
  | ((with_reducible refine' go_ixL ?hh ?hk ?_); (case hh => walk_at "heap"); (case hk => walk_at "item"))
  | ((with_reducible refine' go_ixT ?hh ?hk ?_); (case hh => walk_at "heap"); (case hk => walk_at "item"))
  | ((with_reducible refine' go_lenL ?hh ?_); (case hh => walk_at "heap"))
  | ((with_reducible refine' go_lenT ?hh ?_); (case hh => walk_at "heap"))
  | ((with_reducible refine' go_setL ?hh ?hk ?_); (case hh => walk_at "heap"); (case hk => walk_at "item"))
  | with_reducible refine' go_abs ?_
  | with_reducible refine' go_max ?_
  | with_reducible refine' go_min ?_
  | with_reducible refine' go_int ?_
  | with_reducible refine' go_intB ?_
  | (with_reducible refine' go_eq rfl ?_)
  | (with_reducible refine' go_ne rfl ?_)
  | with_reducible refine' go_isN ?_
  | with_reducible refine' go_notN ?_
  | with_reducible refine' go_if ?_
  | with_reducible refine' go_sub ?_
  | with_reducible refine' go_par ?_
  | with_reducible refine' go_sl ?_
  | with_reducible refine' go_part ?_
  | with_reducible refine' go_pint ?_
  | with_reducible refine' go_nopart ?_
  | ((with_reducible refine' go_lenL ?hh ?_); (case hh => walk_at "heap"))
  | ((with_reducible refine' go_lenT ?hh ?_); (case hh => walk_at "heap"))
  | ((with_reducible refine' go_lenS ?hh ?_); (case hh => assumption))
  | with_reducible refine' go_gcons ?_
  | with_reducible refine' go_gnil ?_
  | with_reducible refine' go_kw ?_
  | with_reducible refine' go_par2 ?_
  | with_reducible refine' go_next ?_
  | with_reducible refine' go_drop ?_
  | with_reducible refine' go_and ?_
  | with_reducible refine' go_or ?_
  | with_reducible refine' go_not ?_
  | with_reducible refine' go_B ?_
  | with_reducible refine' go_andV ?_
  | with_reducible refine' go_orV ?_
  | with_reducible refine' go_notV ?_
  | with_reducible refine' go_chain ?_
  | with_reducible refine' go_un ?_
  | with_reducible refine' go_U ?_
  | with_reducible refine' go_bm ?_
  | with_reducible refine' go_tup ?_
  | with_reducible refine' go_lst ?_
  | with_reducible refine' go_forR1 ?_
  | with_reducible refine' go_forR2 ?_
  | with_reducible refine' go_forL ?_
  | with_reducible refine' go_forT ?_
  | with_reducible refine' go_forE ?_
  | with_reducible refine' go_lcR1 ?_
  | with_reducible refine' go_lcL ?_
  | with_reducible refine' go_lcT ?_
  | ((with_reducible refine' go_tyL ?hh ?_); (case hh => walk_at "heap"))
  | ((with_reducible refine' go_new ?hz ?_); (case hz => exact Nat.le_of_ble_eq_true rfl))
  | with_reducible refine' go_par3 ?_
  | with_reducible refine' go_three ?_
  | with_reducible refine' go_m1 ?_
  | with_reducible refine' go_isS ?_
  | with_reducible refine' go_rSw ?_
  | with_reducible refine' go_rFnd ?_
  | ((with_reducible refine' go_rPrt (by decide +kernel) ?hz ?_); (case hz => walk_at "len"))
  | ((with_reducible refine' go_rSpl (by decide +kernel) ?hz ?_); (case hz => walk_at "len"))
  | ((with_reducible refine' go_rLenS ?hz ?_); (case hz => walk_at "len"))
  | ((with_reducible refine' go_slS ?hz ?_); (case hz => walk_at "len"))
  | with_reducible refine' go_sgn ?_
  | with_reducible refine' go_nsg ?_
  | with_reducible refine' go_lcS ?_
  | (with_reducible refine' ⟨_, rfl, ?_⟩)
  ))
--MACEND
/-! ### a text, word by word -/
def parR : List (List Nat) → Nat → List Stg → Option Int → Except Nat (List Stg × Option Int)
  | [], _, ss, r => .ok (ss, r)
  | _ :: _, i, _, some _ => .error i
  | w :: ws, i, ss, none => match (stgN w).filter (mayF ss) with
    | some s => parR ws (i + 1) (ss ++ [s]) none
    | none => if ss = [] then .error i else match rateN w with
      | some r => parR ws (i + 1) ss (some r)
      | none => .error i
def parL : List (List Nat) → Nat → List Lk → Except Nat (List Lk)
  | [], _, ls => .ok ls
  | w :: ws, i, ls => match lookN w with
    | none => .error i
    | some l => if ls.length = 6 then .error i else parL ws (i + 1) (ls ++ [l])
theorem parR_len : ∀ (ws : List (List Nat)) (i : Nat) (ss : List Stg) (r : Option Int) (ss' : List Stg) (r' : Option Int), ss.length ≤ 8 → parR ws i ss r = .ok (ss', r') → ss'.length ≤ 8
  | [], _, ss, r, ss', r', h, e => by
    simp [parR] at e; rw [← e.1]; exact h
  | _ :: _, i, ss, some _, ss', r', h, e => by simp [parR] at e
  | w :: ws, i, ss, none, ss', r', h, e => by
    rw [parR] at e
    split at e
    · rename_i s hs
      have hm : mayF ss s = true := (Option.filter_eq_some_iff.mp hs).2
      have h8 : ss.length < 8 := by
        unfold mayF at hm
        rw [Bool.and_eq_true, decide_eq_true_eq] at hm
        exact hm.1
      exact parR_len ws (i + 1) (ss ++ [s]) none ss' r' (by simp; omega) e
    · split at e
      · cases e
      · split at e
        · exact parR_len ws (i + 1) ss _ ss' r' h e
        · cases e
def errW (C : Addr) (H : Hp) (E : XK) (v : V) : Prop := ∀ H' dd, Ex H H' → H dd = none → H' dd = some (.xd [("word", v)]) → E (.ref C) (some dd) H'
def backR (C : Addr) (H : Hp) (Q : VK) (E : XK) : Except Nat (List Stg × Option Int) → Prop
  | .error i => errW C H E (.int i)
  | .ok (ss, r) => ∀ p l vs H', Ex H H' → H p = none → H l = none → p ≠ l → H' p = some (.tup [.ref l, optV r]) → H' l = some (.lst vs) → Tps H' vs (ss.map Stg.vals) → Q (.ref p) H'
def backL (C : Addr) (H : Hp) (Q : VK) (E : XK) : Except Nat (List Lk) → Prop
  | .error i => errW C H E (.int i)
  | .ok ls => ∀ l vs H', Ex H H' → H l = none → H' l = some (.lst vs) → Tps H' vs (ls.map Lk.vals) → Q (.ref l) H'
def spParR (C : Addr) : Sp := fun vs H Q E => ∃ x d, vs = [x] ∧ Dq H x d ∧ (pStr d = false → errW C H E .non) ∧ ∀ t, d = .str t → t.length ≤ 1000000 ∧ backR C H Q E (parR (words t) 0 [] none)
def spParL (C : Addr) : Sp := fun vs H Q E => ∃ x d, vs = [x] ∧ Dq H x d ∧ (pStr d = false → errW C H E .non) ∧ ∀ t, d = .str t → t.length ≤ 1000000 ∧ backL C H Q E (parL (words t) 0 [])
theorem fresh_of {H G : Hp} {p : Addr} (e : Ex H G) (n : G p = none) : H p = none := Evl.fresh_back e n
theorem words_at {t : Str} {i : Nat} {v : V} (h : ((Txt.split t (Str.ofString " ")).map V.str)[i]? = some v) : ∃ y : Str, v = .str y ∧ (words t)[i]? = some (tl y) ∧ y.length ≤ t.length := by
  rw [List.getElem?_map] at h
  cases e : (Txt.split t (Str.ofString " "))[i]? with
  | none => rw [e] at h; cases h
  | some y =>
    rw [e] at h
    cases h
    exact ⟨y, rfl, by unfold words; rw [List.getElem?_map, e]; rfl, part_short (List.mem_of_getElem? e)⟩
theorem drop_at {α : Type} {l : List α} {i : Nat} {x : α} (h : l[i]? = some x) : l.drop i = x :: l.drop (i + 1) := by
  obtain ⟨hlt, e⟩ := List.getElem?_eq_some_iff.mp h
  rw [List.drop_eq_getElem_cons hlt, e]
theorem go_nextS {D D0 : Ends} {te : TE} {g : TG} {u : TS} {σ : L2.St} {H : Hp} (e : D.nx = tSeq (tAsg te g) u D0) (h : tSeq (tAsg te g) u D0 σ H) : tNext D σ H := by
  show D.nx σ H
  rw [e]
  exact h
section
variable {P : Program} {w : World} {K : PySem.W.Frag} {mg : Str → Option Value} {base : Heap} {tD tM tS tL : Tok} {CS fI : Addr}
abbrev s_parse_receiver : Stmt := top 31
theorem sc_parse_receiver : FnScope ["text", "stages", "rate", "index", "word", "stage"] ["text"] (defScope s_parse_receiver) := ⟨rfl, rfl, rfl, by decide +kernel, rfl, by decide +kernel, by decide +kernel⟩
theorem ok_parse_receiver {f : Addr} {fd : FuncData} (F : Fun K "parse_receiver" "parse_receiver" s_parse_receiver f fd) (T_InvalidSyntax : SupX.ErrTxt P K mg "InvalidSyntax" "word" CS fI) (m_enumerate : mg "enumerate" = none)
    (h__words_of : HasX P w K mg base 1 "_words_of" (spWords CS)) (h__read_stage : Has P w K mg base 5 "_read_stage" spStgN) (h__may_follow : Has P w K mg base 2 "_may_follow" spMayF) (h__read_rate : Has P w K mg base 3 "_read_rate" (spNum rateN)) :
    FnOk P w K mg base (L2N.CX P w) 6 f fd ["text"] (spParR CS) := by
  refine okXN F sc_parse_receiver (fun vs H Q E h => ?_) (fun cdv A outer s H vs Q E hr h => ?_)
  · obtain ⟨x, d, rfl, _⟩ := h
    rfl
  · obtain ⟨x, d, rfl, hd, k2, k1⟩ := h
    refine ⟨_, (pss_cons (ps_set (i := 1) sc_parse_receiver.nd rfl (Or.inl rfl) (pe_lst pa_nil))
  (pss_cons (ps_set (i := 2) sc_parse_receiver.nd rfl (Or.inl rfl) pe_non)
  (pss_cons (ps_for (passes_of rfl) rfl (pi_enum (by rfl) m_enumerate (pa_cons (pe_hsS h__words_of hr rfl (fun σ => L2N.passAt (L2N.takes_of rfl rfl rfl rfl) σ) (pa_cons (pv 0) pa_nil)) pa_nil)) (pg_tup (by rfl) (pgs_cons (pg_name (i := 3) sc_parse_receiver.nd rfl (Or.inl rfl)) (pgs_cons (pg_name (i := 4) sc_parse_receiver.nd rfl (Or.inl rfl)) pgs_nil)))
  (pss_cons (ps_if (pt_cmpR op_notN1 (pv 2) pe_non (nomark _))
  (pss_one (ps_raiseErrN rfl T_InvalidSyntax hr (L2N.takes_of rfl rfl rfl rfl) (pa_cons (pv 3) pa_nil)))
  pss_nil)
  (pss_cons (ps_set (i := 5) sc_parse_receiver.nd rfl (Or.inl rfl) (pe_hs h__read_stage hr rfl (pa_cons (pv 4) pa_nil)))
  (pss_cons (ps_if (PW.pt (pw_and (pt_cmpR op_notN1 (pv 5) pe_non (nomark _)) (pw_and1 (pt_val (pe_hs h__may_follow hr rfl (pa_cons (pv 1) (pa_cons (pv 5) pa_nil)))))))
  (pss_cons (ps_expr (pe_bm PySem.F.plainAttrs_list PySem.F.slot_list_append PySem.F.type_list_append mt_append (pv 1) (pa_cons (pv 5) pa_nil)))
  (pss_one ps_continue))
  pss_nil)
  (pss_cons (ps_set (i := 2) sc_parse_receiver.nd rfl (Or.inl rfl) (pe_ifExp (pt_truth (pv 1) (by intro _; rfl)) (pe_hs h__read_rate hr rfl (pa_cons (pv 4) pa_nil)) pe_non))
  (pss_one (ps_if (pt_cmpR op_isN1 (pv 2) pe_non (nomark _))
  (pss_one (ps_raiseErrN rfl T_InvalidSyntax hr (L2N.takes_of rfl rfl rfl rfl) (pa_cons (pv 3) pa_nil)))
  pss_nil)))))))
  (pss_one (ps_ret (pe_tup (pa_cons (pv 1) (pa_cons (pv 2) pa_nil)))))))), ?_⟩
    walk_at "rd"
    intro l hl
    have e0 := Ex.new (o := HO.lst []) hl
    walk_at "rd"
    refine go_callS ?_
    walk_at "rd"
    refine ⟨x, d, rfl, hd.ex e0, fun t ht => ?_, fun hp H1 dd e1 nd hdd => ?_⟩
    · obtain ⟨ht1, back⟩ := k1 t ht
      refine ⟨ht1, fun p H1 e1 np hp => ?_⟩
      have pl : p ≠ l := fun z => by rw [z] at np; rw [upd_same] at np; cases np
      have hl1 := e1 _ _ (upd_same (H := H) (a := l) (o := HO.lst []))
      walk_at "rd"
      refine ⟨p, _, rfl, .inl (.inl hp), ?_⟩
      refine run_forE ((Txt.split t (Str.ofString " ")).map V.str) (fun i σ G => ∃ (v3 v4 v5 : Option V) (vs : List V) (ss : List Stg) (r : Option Int), σ = [some x, some (.ref l), some (optV r), v3, v4, v5] ∧ Ex H G ∧ G p = some (.lst ((Txt.split t (Str.ofString " ")).map V.str)) ∧ G l = some (.lst vs) ∧ Tps G vs (ss.map Stg.vals) ∧ ss.length ≤ 8 ∧
        parR (words t) 0 [] none = parR ((words t).drop i) i ss r) ?_ ?_ ?_ ?_
      · exact ⟨_, _, _, [], [], none, rfl, e0.trans e1, hp, hl1, .nil, by simp, by simp⟩
      · rintro i σ G _ ⟨_, _, _, _, _, _, rfl, _, h, _⟩
        exact .inl (.inl h)
      · rintro i y σ G Tp hi ⟨v3, v4, v5, vs, ss, r, rfl, e, hGp, hGl, hT, h8, hpar⟩ hTp
        obtain ⟨wd, rfl, hw, hwl⟩ := words_at hi
        rw [drop_at hw] at hpar
        have e2 := Ex.new (o := HO.tup [.int (i : Nat), .str wd]) hTp
        refine go_gtup (.inl (.inl upd_same)) rfl ?_
        walk_at "rd"
        have raise : parR (words t) 0 [] none = .error i → ∀ G', Ex H G' → ∀ dd, G' dd = none → E (.ref CS) (some dd) (upd G' dd (.xd [("word", .int (i : Nat))])) := fun he G' e' dd nd => by
          rw [he] at back
          exact back _ dd (e'.trans (Ex.new nd)) (fresh_of e' nd) upd_same
        cases r with
        | some r0 =>
          refine ite2 (fun _ => ?_) (fun c => absurd (by simp [optV]) c)
          refine go_raiseErr ?_
          walk_at "rd"
          exact raise (by rw [hpar]; rfl) _ (e.trans e2)
        | none =>
          refine ite2 (fun c => absurd c (by simp [optV])) (fun _ => ?_)
          refine go_next ?_
          dsimp only
          rw [parR] at hpar
          have lenv : vs.length = ss.length := by rw [hT.len, List.length_map]
          refine cut_s (fun σ' G' => ∃ u5 : V, σ' = [some x, some (.ref l), some .non, some (.int (i : Nat)), some (.str wd), some u5] ∧ Ex (upd G Tp (HO.tup [.int (i : Nat), .str wd])) G' ∧ ((u5 = .non ∧ stgN (tl wd) = none) ∨ ∃ st q, stgN (tl wd) = some st ∧ u5 = .ref q ∧ G' q = some (.tup st.vals))) (fun D' _ _ _ q => ?_) ?_
          · walk_at "rd"
            refine ⟨wd, rfl, by omega, fun hn H2 e3 => ?_, fun st hst qa H2 e3 nq hq => ?_⟩
            · walk_at "rd"
              exact q _ _ ⟨_, rfl, e3, .inl ⟨rfl, hn⟩⟩
            · walk_at "rd"
              exact q _ _ ⟨_, rfl, e3, .inr ⟨st, qa, hst, rfl, hq⟩⟩
          rintro σ2 G2 ⟨u5, rfl, e3, hu⟩
          have e5 := e2.trans e3
          have eG2 := e.trans e5
          refine cut_s (fun σ' G' => ∃ u5 : V, σ' = [some x, some (.ref l), some .non, some (.int (i : Nat)), some (.str wd), some u5] ∧ Ex G G' ∧ (stgN (tl wd)).filter (mayF ss) = none) (fun D' _ _ hct q => ?_) ?_
          · rcases hu with ⟨rfl, hn⟩ | ⟨st, qa, hst, rfl, hq⟩
            · walk_at "rd"
              refine ite2 (fun c => absurd c (by simp)) (fun _ => ?_)
              refine iteF ?_
              refine go_next ?_
              exact q _ _ ⟨_, rfl, e5, by rw [hn]; rfl⟩
            · walk_at "rd"
              refine ite2 (fun _ => ?_) (fun c => absurd (by simp) c)
              walk_at "rd"
              refine ⟨_, _, ss, st, rfl, .lst (.inl (e5 _ _ hGl)) (tps_stgs (hT.ex e5)), stg_dq hq, fun H3 e6 => ?_⟩
              walk_at "rd"
              cases hm : mayF ss st with
              | false =>
                refine iteF ?_
                refine go_next ?_
                exact q _ _ ⟨_, rfl, e5.trans e6, by rw [hst]; simp [hm]⟩
              | true =>
                refine iteT ?_
                have e7 := e5.trans e6
                have hl7 := e7 _ _ hGl
                have h8' : ss.length < 8 := by
                  unfold mayF at hm
                  rw [Bool.and_eq_true, decide_eq_true_eq] at hm
                  exact hm.1
                walk_at "rd"
                refine go_app (e7 _ _ hGl) (by rw [lenv, sizeLine_eq]; omega) ?_
                rw [hst, show Option.filter (mayF ss) (some st) = some st from by simp [hm]] at hpar
                walk_at "rd"
                refine Eq.mpr (congrFun (congrFun hct _) _) ?_
                dsimp only
                refine ⟨_, _, _, _, ss ++ [st], none, rfl, Ex.mut (e.trans e7) hl, ?_, upd_same, ?_, by simp; omega, hpar⟩
                · rw [upd_ne pl]; exact e7 _ _ hGp
                · rw [List.map_append]
                  exact (((hT.ex e7).snoc (e6 _ _ hq))).mut (e7 _ _ hGl)
          rintro σ3 G3 ⟨v5', rfl, e8, hfil⟩
          rw [hfil] at hpar
          dsimp only at hpar
          have eH3 := e.trans e8
          walk_at "rd"
          refine ⟨!vs.isEmpty, .inl ⟨vs, .inl (.inl (e8 _ _ hGl)), rfl⟩, ?_⟩
          cases hss : ss with
          | nil =>
            have hv0 : vs = [] := List.length_eq_zero_iff.mp (by rw [lenv, hss]; rfl)
            rw [hv0]
            refine ite2 (fun c => absurd c (by simp)) (fun _ => ?_)
            walk_at "rd"
            refine ite2 (fun _ => ?_) (fun c => absurd (by simp) c)
            refine go_raiseErr ?_
            walk_at "rd"
            exact raise (by rw [hpar, if_pos hss]) _ eH3
          | cons s0 sr =>
            have hv1 : (!vs.isEmpty) = true := by
              cases vs with
              | nil => rw [hss] at lenv; simp at lenv
              | cons v vs => rfl
            rw [hv1]
            refine iteT ?_
            rw [if_neg (by rw [hss]; simp)] at hpar
            walk_at "rd"
            refine ⟨wd, rfl, by omega, fun H4 e9 => ?_⟩
            walk_at "rd"
            cases hrt : rateN (tl wd) with
            | none =>
              rw [hrt] at hpar
              refine ite2 (fun _ => ?_) (fun c => absurd (by simp [optV]) c)
              refine go_raiseErr ?_
              walk_at "rd"
              exact raise hpar _ (eH3.trans e9)
            | some r1 =>
              rw [hrt] at hpar
              refine ite2 (fun c => absurd c (by simp [optV])) (fun _ => ?_)
              refine go_next ?_
              have e10 := e8.trans e9
              exact ⟨_, _, _, vs, ss, some r1, rfl, e.trans e10, e10 _ _ hGp, e10 _ _ hGl, hT.ex e10, h8, hpar⟩
      · rintro σ G ⟨_, _, _, vs, ss, r, rfl, e, hGp, hGl, hT, h8, hpar⟩
        rw [show (words t).drop ((Txt.split t (Str.ofString " ")).map V.str).length = [] from List.drop_eq_nil_of_le (by unfold words; rw [List.length_map, List.length_map]; exact Nat.le_refl _)] at hpar
        rw [hpar] at back
        walk_at "rd"
        intro pt npt
        exact back pt l vs _ (e.trans (Ex.new npt)) (fresh_of e npt) hl (fun z => by rw [z, hGl] at npt; cases npt) upd_same (by rw [upd_ne (fun z => by rw [← z, hGl] at npt; cases npt)]; exact hGl) (hT.ex (Ex.new npt))
    · exact k2 hp H1 dd (e0.trans e1) (fresh_of e0 nd) hdd
end
end Kx

set_option Elab.async false
set_option linter.all false
set_option maxRecDepth 100000
set_option maxHeartbeats 2000000

namespace Kx
open PySem PySem.Spec PyProof.Rows L2 HX TL
open Evl (Ex)
local macro_rules | `(tactic| walk_at "len") => `(tactic| first | assumption | exact le_line (by assumption) | exact le_line (by omega) | exact le_line (Nat.le_trans (cutS_length _ _ _) (by omega)) | (rw [sizeLine_eq]; omega))
local macro_rules | `(tactic| walk_at "side") => `(tactic| first | assumption | ((try dsimp only); first | assumption | decide +kernel | omega | exact ⟨by decide, by decide⟩ | (left; decide) | (left; omega) | (refine Or.inl ⟨?_, ?_⟩ <;> omega) | (refine Or.inr ⟨?_, ?_⟩ <;> omega)))
local macro_rules | `(tactic| walk_at "heap") => `(tactic| first | assumption | exact upd_same | exact Or.inl (by assumption) | exact Or.inl upd_same)
local macro_rules | `(tactic| walk_at "item") => `(tactic| first | exact rfl | exact atI_nat (j := 0) rfl | exact atI_nat (j := 1) rfl | exact atI_nat (j := 2) rfl | assumption)
local macro_rules | `(tactic| walk_at "rd") => `(tactic| repeat (first
  | ((with_reducible refine' go_var ?hv ?_); (case hv => exact rfl))
  | with_reducible refine' go_c ?_
  | with_reducible refine' go_op ?_
  | with_reducible refine' go_seq ?_
  | with_reducible refine' go_asg ?_
  | with_reducible refine' go_name ?_
  | with_reducible refine' go_cons ?_
  | with_reducible refine' go_nil ?_
  | with_reducible refine' go_cb ?_
  | with_reducible refine' go_call ?_
  | with_reducible refine' go_ifS ?_
  | with_reducible refine' go_test ?_
  | with_reducible refine' go_bl ?_
  | with_reducible refine' go_ret ?_
  | with_reducible refine' go_I0 ?_
  | ((with_reducible refine' go_I ?cc ?_); (case cc => walk_at "side"))
  | ((with_reducible refine' go_ixL ?hh ?hk ?_); (case hh => walk_at "heap"); (case hk => walk_at "item"))
  | ((with_reducible refine' go_ixT ?hh ?hk ?_); (case hh => walk_at "heap"); (case hk => walk_at "item"))
  | ((with_reducible refine' go_lenL ?hh ?_); (case hh => walk_at "heap"))
  | ((with_reducible refine' go_lenT ?hh ?_); (case hh => walk_at "heap"))
  | ((with_reducible refine' go_setL ?hh ?hk ?_); (case hh => walk_at "heap"); (case hk => walk_at "item"))
  | with_reducible refine' go_abs ?_
  | with_reducible refine' go_max ?_
  | with_reducible refine' go_min ?_
  | with_reducible refine' go_int ?_
  | with_reducible refine' go_intB ?_
  | (with_reducible refine' go_eq rfl ?_)
  | (with_reducible refine' go_ne rfl ?_)
  | with_reducible refine' go_isN ?_
  | with_reducible refine' go_notN ?_
  | with_reducible refine' go_if ?_
  | with_reducible refine' go_sub ?_
  | with_reducible refine' go_par ?_
  | with_reducible refine' go_sl ?_
  | with_reducible refine' go_part ?_
  | with_reducible refine' go_pint ?_
  | with_reducible refine' go_nopart ?_
  | ((with_reducible refine' go_lenL ?hh ?_); (case hh => walk_at "heap"))
  | ((with_reducible refine' go_lenT ?hh ?_); (case hh => walk_at "heap"))
  | ((with_reducible refine' go_lenS ?hh ?_); (case hh => assumption))
  | with_reducible refine' go_gcons ?_
  | with_reducible refine' go_gnil ?_
  | with_reducible refine' go_kw ?_
  | with_reducible refine' go_par2 ?_
  | with_reducible refine' go_next ?_
  | with_reducible refine' go_drop ?_
  | with_reducible refine' go_and ?_
  | with_reducible refine' go_or ?_
  | with_reducible refine' go_not ?_
  | with_reducible refine' go_B ?_
  | with_reducible refine' go_andV ?_
  | with_reducible refine' go_orV ?_
  | with_reducible refine' go_notV ?_
  | with_reducible refine' go_chain ?_
  | with_reducible refine' go_un ?_
  | with_reducible refine' go_U ?_
  | with_reducible refine' go_bm ?_
  | with_reducible refine' go_tup ?_
  | with_reducible refine' go_lst ?_
  | with_reducible refine' go_forR1 ?_
  | with_reducible refine' go_forR2 ?_
  | with_reducible refine' go_forL ?_
  | with_reducible refine' go_forT ?_
  | with_reducible refine' go_forE ?_
  | with_reducible refine' go_lcR1 ?_
  | with_reducible refine' go_lcL ?_
  | with_reducible refine' go_lcT ?_
  | ((with_reducible refine' go_tyL ?hh ?_); (case hh => walk_at "heap"))
  | ((with_reducible refine' go_new ?hz ?_); (case hz => exact Nat.le_of_ble_eq_true rfl))
  | with_reducible refine' go_par3 ?_
  | with_reducible refine' go_three ?_
  | with_reducible refine' go_m1 ?_
  | with_reducible refine' go_isS ?_
  | with_reducible refine' go_rSw ?_
  | with_reducible refine' go_rFnd ?_
  | ((with_reducible refine' go_rPrt (by decide +kernel) ?hz ?_); (case hz => walk_at "len"))
  | ((with_reducible refine' go_rSpl (by decide +kernel) ?hz ?_); (case hz => walk_at "len"))
  | ((with_reducible refine' go_rLenS ?hz ?_); (case hz => walk_at "len"))
  | ((with_reducible refine' go_slS ?hz ?_); (case hz => walk_at "len"))
  | with_reducible refine' go_sgn ?_
  | with_reducible refine' go_nsg ?_
  | with_reducible refine' go_lcS ?_
  | (with_reducible refine' ⟨_, rfl, ?_⟩)
  ))
--MACEND
section
variable {P : Program} {w : World} {K : PySem.W.Frag} {mg : Str → Option Value} {base : Heap} {tD tM tS tL : Tok} {CS fI : Addr}
abbrev s_parse_looks : Stmt := top 32
theorem sc_parse_looks : FnScope ["text", "looks", "index", "word", "look"] ["text"] (defScope s_parse_looks) := ⟨rfl, rfl, rfl, by decide +kernel, rfl, by decide +kernel, by decide +kernel⟩
theorem ok_parse_looks {f : Addr} {fd : FuncData} (F : Fun K "parse_looks" "parse_looks" s_parse_looks f fd) (T_InvalidSyntax : SupX.ErrTxt P K mg "InvalidSyntax" "word" CS fI) (m_enumerate : mg "enumerate" = none) (m_len : mg "len" = none) (g_MOST_LOOKS : mg "MOST_LOOKS" = some (.int 6 tL))
    (h__words_of : HasX P w K mg base 1 "_words_of" (spWords CS)) (h__read_look : Has P w K mg base 5 "_read_look" spLkN) :
    FnOk P w K mg base (L2N.CX P w) 6 f fd ["text"] (spParL CS) := by
  refine okXN F sc_parse_looks (fun vs H Q E h => ?_) (fun cdv A outer s H vs Q E hr h => ?_)
  · obtain ⟨x, d, rfl, _⟩ := h
    rfl
  · obtain ⟨x, d, rfl, hd, k2, k1⟩ := h
    refine ⟨_, (pss_cons (ps_set (i := 1) sc_parse_looks.nd rfl (Or.inl rfl) (pe_lst pa_nil))
  (pss_cons (ps_for (passes_of rfl) rfl (pi_enum (by rfl) m_enumerate (pa_cons (pe_hsS h__words_of hr rfl (fun σ => L2N.passAt (L2N.takes_of rfl rfl rfl rfl) σ) (pa_cons (pv 0) pa_nil)) pa_nil)) (pg_tup (by rfl) (pgs_cons (pg_name (i := 2) sc_parse_looks.nd rfl (Or.inl rfl)) (pgs_cons (pg_name (i := 3) sc_parse_looks.nd rfl (Or.inl rfl)) pgs_nil)))
  (pss_cons (ps_set (i := 4) sc_parse_looks.nd rfl (Or.inl rfl) (pe_hs h__read_look hr rfl (pa_cons (pv 3) pa_nil)))
  (pss_cons (ps_if (PW.pt (pw_or (pt_cmpR op_isN1 (pv 4) pe_non (nomark _)) (pw_or1 (pt_cmpR op_eq (pe_callB call_lenQ rfl m_len PySem.boot_len (pa_cons (pv 1) pa_nil)) (pe_glob (v := .int 6) rfl g_MOST_LOOKS ⟨_, rfl⟩) (nomark _)))))
  (pss_one (ps_raiseErrN rfl T_InvalidSyntax hr (L2N.takes_of rfl rfl rfl rfl) (pa_cons (pv 2) pa_nil)))
  pss_nil)
  (pss_one (ps_expr (pe_bm PySem.F.plainAttrs_list PySem.F.slot_list_append PySem.F.type_list_append mt_append (pv 1) (pa_cons (pv 4) pa_nil)))))))
  (pss_one (ps_ret (pv 1))))), ?_⟩
    walk_at "rd"
    intro l hl
    have e0 := Ex.new (o := HO.lst []) hl
    walk_at "rd"
    refine go_callS ?_
    walk_at "rd"
    refine ⟨x, d, rfl, hd.ex e0, fun t ht => ?_, fun hp H1 dd e1 nd hdd => ?_⟩
    · obtain ⟨ht1, back⟩ := k1 t ht
      refine ⟨ht1, fun p H1 e1 np hp => ?_⟩
      have pl : p ≠ l := fun z => by rw [z] at np; rw [upd_same] at np; cases np
      have hl1 := e1 _ _ (upd_same (H := H) (a := l) (o := HO.lst []))
      walk_at "rd"
      refine ⟨p, _, rfl, .inl (.inl hp), ?_⟩
      refine run_forE ((Txt.split t (Str.ofString " ")).map V.str) (fun i σ G => ∃ (v3 v4 v5 : Option V) (vs : List V) (ls : List Lk), σ = [some x, some (.ref l), v3, v4, v5] ∧ Ex H G ∧ G p = some (.lst ((Txt.split t (Str.ofString " ")).map V.str)) ∧ G l = some (.lst vs) ∧ Tps G vs (ls.map Lk.vals) ∧ ls.length ≤ 6 ∧
        parL (words t) 0 [] = parL ((words t).drop i) i ls) ?_ ?_ ?_ ?_
      · exact ⟨_, _, _, [], [], rfl, e0.trans e1, hp, hl1, .nil, by simp, by simp⟩
      · rintro i σ G _ ⟨_, _, _, _, _, rfl, _, h, _⟩
        exact .inl (.inl h)
      · rintro i y σ G Tp hi ⟨v3, v4, v5, vs, ls, rfl, e, hGp, hGl, hT, h8, hpar⟩ hTp
        obtain ⟨wd, rfl, hw, hwl⟩ := words_at hi
        rw [drop_at hw] at hpar
        rw [parL] at hpar
        have e2 := Ex.new (o := HO.tup [.int (i : Nat), .str wd]) hTp
        have lenv : vs.length = ls.length := by rw [hT.len, List.length_map]
        refine go_gtup (.inl (.inl upd_same)) rfl ?_
        walk_at "rd"
        have raise : parL (words t) 0 [] = .error i → ∀ G', Ex H G' → ∀ dd, G' dd = none → E (.ref CS) (some dd) (upd G' dd (.xd [("word", .int (i : Nat))])) := fun he G' e' dd nd => by
          rw [he] at back
          exact back _ dd (e'.trans (Ex.new nd)) (fresh_of e' nd) upd_same
        refine ⟨wd, rfl, by omega, fun hn H2 e3 => ?_, fun lk hlk qa H2 e3 nq hq => ?_⟩
        · rw [hn] at hpar
          walk_at "rd"
          refine ite2 (fun _ => ?_) (fun c => absurd (by simp) c)
          refine iteT ?_
          refine go_raiseErr ?_
          walk_at "rd"
          exact raise hpar _ ((e.trans e2).trans e3)
        · rw [hlk] at hpar
          dsimp only at hpar
          have e5 := e2.trans e3
          have hl5 := e5 _ _ hGl
          walk_at "rd"
          refine ite2 (fun c => absurd c (by simp)) (fun _ => ?_)
          walk_at "rd"
          rw [lenv]
          refine ite2 (fun c => ?_) (fun c => ?_)
          · have h6 : ls.length = 6 := by have := of_decide_eq_true c; simp at this; omega
            rw [if_pos h6] at hpar
            refine go_raiseErr ?_
            walk_at "rd"
            exact raise hpar _ (e.trans e5)
          · have h6 : ¬ ls.length = 6 := fun z => c (decide_eq_true (by rw [z]; rfl))
            rw [if_neg h6] at hpar
            walk_at "rd"
            refine go_app hl5 (by rw [lenv, sizeLine_eq]; omega) ?_
            dsimp only
            refine ⟨_, _, _, _, ls ++ [lk], rfl, Ex.mut (e.trans e5) hl, ?_, upd_same, ?_, by simp; omega, hpar⟩
            · rw [upd_ne pl]; exact e5 _ _ hGp
            · rw [List.map_append]
              exact (((hT.ex e5).snoc hq)).mut hl5
      · rintro σ G ⟨_, _, _, vs, ls, rfl, e, hGp, hGl, hT, h8, hpar⟩
        rw [show (words t).drop ((Txt.split t (Str.ofString " ")).map V.str).length = [] from List.drop_eq_nil_of_le (by unfold words; rw [List.length_map, List.length_map]; exact Nat.le_refl _)] at hpar
        rw [hpar] at back
        walk_at "rd"
        exact back l vs _ e hl hGl hT
    · exact k2 hp H1 dd (e0.trans e1) (fresh_of e0 nd) hdd
end
end Kx

set_option Elab.async false
set_option linter.all false
set_option maxRecDepth 100000
set_option maxHeartbeats 2000000
/-! an error that a suite hands on: except C as e: caught = e -/
namespace HX
open PySem PySem.Spec PyProof.Rows L2
/-- an error object that was raised and caught: its class, its dict -/
def exr (a : Addr) (cls : Value) (d : Option Addr) : HO := .ext fun h => ∃ (oe : Obj) (vs : Array Value), h.get? a = some oe ∧ Zc cls d oe ∧ oe.data = .fields vs
theorem exr_ok {P : Program} {w : World} {H : Hp} {h : Heap} {a : Addr} {cls : Value} {d : Option Addr} {oe : Obj} {vs : Array Value} (e : h.get? a = some oe) (z : Zc cls d oe) (dt : oe.data = .fields vs) : ObjOk P w H h a (exr a cls d) :=
  ⟨⟨oe, vs, e, z, dt⟩, ⟨oe, e⟩, fun _ _ ⟨o, v, q, r⟩ k => ⟨o, v, k o q, r⟩⟩
theorem _root_.L2.Inv.track {X : Cx} {pins : List (Addr × Obj)} {σ : L2.St} {H : Hp} {s : Shared} {a : Addr} {o : HO} (I : Inv X pins σ H s) (hn : H a = none) (h0 : X.s_0.heap.get? a = none) (nL : a ≠ X.env.locals) (nC : ∀ y c, X.env.cells.lookup y = some c → a ≠ c)
    (nP : ∀ p ∈ X.pn ++ pins, a ≠ p.1) (new : ObjOk X.prog X.w (upd H a o) s.heap a o) : Inv X pins σ (upd H a o) s where
  ok := I.ok
  os := I.os
  bare := I.bare
  base := { keep := I.base.keep
            slot := I.base.slot
            free := fun b u q n e => by rw [upd_ne (fun z => by rw [z, h0] at q; cases q)]; exact I.base.free b u q n e
            there := I.base.there
            tups := fun b xs q => by have := I.base.tups b xs q; rw [upd_ne (fun z => by rw [z, hn] at this; cases this)]; exact this
            frzs := fun b u xs q => by have := I.base.frzs b u xs q; rw [upd_ne (fun z => by rw [z, hn] at this; cases this)]; exact this
            tbls := fun b ps q => by obtain ⟨m, this⟩ := I.base.tbls b ps q; exact ⟨m, by rw [upd_ne (fun z => by rw [z, hn] at this; cases this)]; exact this⟩ }
  loc := I.loc
  cell := I.cell
  free := by rw [upd_ne (Ne.symm nL)]; exact I.free
  freeC := fun y c e => by rw [upd_ne (Ne.symm (nC y c e))]; exact I.freeC y c e
  pin := fun p hp => by
    obtain ⟨h1, h2, h3⟩ := I.pin p hp
    exact ⟨h1, by rw [upd_ne (Ne.symm (nP p hp))]; exact h2, h3⟩
  hok := I.hok.laidN (fun _ _ q => q) hn new
  len := I.len
/-- behind a suite the name's slot is empty, and its object is held -/
def Ends.keep (i : Nat) (x : Addr) (cl : Value) (dd : Option Addr) (D : Ends) : Ends :=
  { nx := fun τ G => D.nx (τ.set i none) (upd G x (exr x cl dd)), rt := fun v G => D.rt v (upd G x (exr x cl dd)), bk := fun τ G => D.bk (τ.set i none) (upd G x (exr x cl dd)), ct := fun τ G => D.ct (τ.set i none) (upd G x (exr x cl dd)) }
def wAllK (K : PySem.W.Frag) (i : Nat) (Wo : WX) (D : Ends) : List (Value × (Addr → Value → Option Addr → TS)) → WX
  | [] => Wo
  | (c, t) :: more => fun cl dd τ G => ∃ yes, PySem.W.exmOne K cl c = some yes ∧ (yes = true → ∀ x, G x = none → t x cl dd (Ends.keep i x cl dd D) (τ.set i (some (.ref x))) G) ∧ (yes = false → wAllK K i Wo D more cl dd τ G)
section
variable {X : Cx} {n : Str} {i : Nat} {body : List Stmt} {h1 : ExceptHandler} {hs : List ExceptHandler} {l : List (Value × (Addr → Value → Option Addr → TS))} {pos : Pos} {tb : WX → TS} {Wo : WX}
theorem ps_try_allK (st : X.stack = X.env :: X.outer) (fr : X.env.frame = some X.env.locals) (nd : X.N.Nodup) (at_ : X.N[i]? = some n) (lc : X.env.kindOf n = some .local) (out : L2N.Takes X Wo)
    (hb : ∀ (W : WX) (pn : List (Addr × Obj)) (xe : Value → Shared → Prop), L2N.Takes (X.tr pn xe) W → PassesOwn (model X.prog X.w) X.A X.env xe → PSs (X.tr pn xe) body (tb W)) (cs : ClausesN X n (h1 :: hs) l) (hex : X.ex = [] := by rfl) :
    PS X (.Try body (h1 :: hs) [] [] pos) (fun D σ H => tb (wAllK X.K i Wo D l) D σ H) := by
  constructor
  intro pins s σ H D I want
  have okX := I.ok
  have frs1 : X.A.frames = some (X.env :: X.outer) := okX.frames.trans (by rw [st])
  refine wpAny_Try_except ?_
  let after : Value → Shared → Prop := fun u s1 => wpAny (model X.prog X.w) X.A (noteFrame u X.env) (fun _ s2 =>
    wpAny (model X.prog X.w) X.A (setFlight u none) (fun _ s3 => wpAny (model X.prog X.w) X.A (handleBy u X.env (h1 :: hs)) (SP X pins D) X.xe s3) X.xe s2) X.xe s1
  have caught : L2N.Takes (X.tr (X.pn ++ pins) after) (wAllK X.K i Wo D l) := by
    rintro u s1 ⟨x, gr, s0, pins2, τ, G, cl, dd, rfl, I2, ng, us, sk, nx, eos, bare, want2⟩
    have I0 : Inv X pins τ G s0 := I2.ofTry okX
    rw [show (X.tr (X.pn ++ pins) after).stack = X.env :: X.outer from st] at sk
    show wpAny (model X.prog X.w) X.A (noteFrame (.ref x) X.env) _ _ _
    refine L2N.Sky.land L2N.Zn.steady frs1 fr sk fun g2 fly us2 => ?_
    have I3 : Inv X pins τ G { s1 with heap := g2 } := I0.landed ng fly.1 (us.trans us2) eos bare
    obtain ⟨ob, vs, gx, zx, dx⟩ := fly.there
    have apart : x ∉ frs (X.env :: X.outer) := by
      intro m
      obtain ⟨_, o2, e2, nf⟩ := fly.2.2.1.mem m
      rw [gx] at e2
      cases e2
      exact nf _ dx
    have xL : x ≠ X.env.locals := fun z => apart (List.mem_filterMap.mpr ⟨X.env, List.mem_cons_self, by rw [fr, z]⟩)
    have xF : x ∉ X.fs := by
      intro m
      obtain ⟨e2, m2, q2⟩ := List.mem_filterMap.mp m
      exact apart (List.mem_filterMap.mpr ⟨e2, List.mem_cons_of_mem _ m2, q2⟩)
    have x0 : s0.heap.get? x = none := by
      cases q : s0.heap.get? x with
      | none => rfl
      | some o =>
        have m : x ∉ frs (X.tr (X.pn ++ pins) after).stack := fun z => apart (by rw [show (X.tr (X.pn ++ pins) after).stack = X.env :: X.outer from st] at z; exact z)
        have := ng x o q m
        rw [fly.2.1] at this
        cases this
    have xS : X.s_0.heap.get? x = none := by
      cases q : X.s_0.heap.get? x with
      | none => rfl
      | some o =>
        obtain ⟨o', e⟩ := I0.base.there x o q (by rw [hex]; exact List.not_mem_nil)
        rw [x0] at e
        cases e
    have inS := I3.suite gx dx nx xL xF
    have walkC : ∀ {hs2 : List ExceptHandler} {l2 : List (Value × (Addr → Value → Option Addr → TS))}, ClausesN X n hs2 l2 → wAllK X.K i Wo D l2 cl dd τ G →
        wpAny (model X.prog X.w) X.A (handleBy (.ref x) X.env hs2) (SP X pins D) X.xe { s1 with heap := g2 } := by
      intro hs2 l2 c2
      induction c2 with
      | nil =>
        intro w
        refine wpAny_handleBy_nil ?_
        obtain ⟨_, _, _, ob2, vs2, Tb, oTb, ts2, gx2, _, dx2, v1, _⟩ := id fly
        unfold PySem.passOn
        refine wpAny_bind (wpAny_field gx2 dx2 v1 ?_)
        have isnt : ¬ ((Value.ref Tb == Value.none) = true) := by simp
        rw [if_neg isnt]
        have leave : wpAny (model X.prog X.w) X.A (setFlight (.ref x) X.env.frame) (fun _ s4 => wpAny (model X.prog X.w) X.A (throw (.ref x) : Sem Flow) (SP X pins D) X.xe s4) X.xe { s1 with heap := g2 } := by
          rw [fr]
          refine HandSPX.setFlight_upZ fly fun g4 held us4 => ?_
          refine wpAny_throw (out _ _ ?_)
          refine ⟨x, gr, s0, pins, τ, G, cl, dd, rfl, I0, ng, (us.trans us2).trans us4, ?_, nx, eos, bare, w⟩
          rw [st]
          exact .inr (.inr held)
        first
          | exact wpAny_bind leave
          | exact wpAny_bind (wpAny_pure (wpAny_bind leave))
      | @cons xn c t b bs p q hs3 l3 nm suite more ih =>
        intro w
        obtain ⟨yes, match_, yesW, noW⟩ := w
        refine wpAny_handleBy_cons (codeAny_handlers_test ?_) (by intro z; cases z)
        have ty : PySem.W.Looks (model X.prog X.w) g2 (typeOf (.ref x)) cl := fun A Q E s4 k z => wpAny_typeOf_ref (k _ _ gx) (by rw [zx.1]; exact z)
        have looks := PySem.W.exm_one (M := model X.prog X.w) I3.kIn ty match_
        have nameOf : ∀ {Q : Value → Shared → Prop} {E : Value → Shared → Prop}, Q c { s1 with heap := g2 } → wpAny (model X.prog X.w) (X.A.mark (some (.ref x))) (eval (.Name xn p) X.env) Q E { s1 with heap := g2 } := by
          intro Q E z
          obtain ⟨gl, db, m | ⟨m, bt, nn⟩⟩ := nm
          · exact ld_glob (X := X.suite x ((x, ob) :: (X.pn ++ pins))) inS gl m z db
          · exact ld_blt (X := X.suite x ((x, ob) :: (X.pn ++ pins))) inS gl m bt z nn db
        refine nameOf (looks.here ?_)
        cases yes with
        | false =>
          show wpAny _ X.A (handleBy (.ref x) X.env hs3) _ _ _
          exact ih (noW rfl)
        | true =>
          refine codeAny_handlers_suite_as ?_
          refine HandSPX.lands_againZ fly fun g4 fly4 us4 => ?_
          have I4 : Inv X pins τ G { s1 with heap := g4 } := I0.landed ng fly4.1 ((us.trans us2).trans us4) eos bare
          obtain ⟨ob4, vs4, gx4, zx4, dx4⟩ := fly4.there
          have inS4 := I4.suite gx4 dx4 nx xL xF
          refine store_ok (X := X.suite x ((x, ob4) :: (X.pn ++ pins))) (v := .ref x) inS4 nd at_ (.inl lc) rfl (fun s5 inS5 => ?_) (.inr lc)
          refine wpAny_mono ((suite x ob4 cl dd (X.pn ++ pins) zx4 ⟨_, dx4⟩).run [] s5 _ G _ inS5 (yesW rfl x nx)) (fun fl s6 got => ?_) (fun _ _ z => False.elim z)
          have gone : ∀ {τ6 : L2.St} {G6 : Hp} {Q : Shared → Prop}, Inv (X.suite x ((x, ob4) :: (X.pn ++ pins))) [] τ6 G6 s6 → (∀ s7, Inv X pins (τ6.set i none) (upd G6 x (exr x cl dd)) s7 → Q s7) →
              wpAny (model X.prog X.w) X.A (do bindName X.env n .none; unbindBehindTheSuite X.env n q) (fun _ s7 => Q s7) X.xe s6 := by
            intro τ6 G6 Q in6 z
            obtain ⟨p1, p2, _⟩ := in6.pin (x, ob4) (List.mem_append_left _ List.mem_cons_self)
            have in7 := in6.unsuite okX
            refine gone_ok (in7.track p2 xS xL (fun y c e w => ?_) (fun p hp w => ?_) (exr_ok p1 zx4.zc dx4)) nd at_ lc z
            · obtain ⟨v, o, e1, e2⟩ := in7.cell y c e
              rw [← w, p1] at e1
              cases e1
              rw [dx4] at e2
              cases e2
            · have := (I0.pin p hp).1
              rw [← w, x0] at this
              cases this
          cases fl with
          | ret u =>
            obtain ⟨v6, τ6, G6, in6, r6, z⟩ := got
            exact gone in6 fun s7 I7 => ⟨_, _, _, I7, r6, z⟩
          | next =>
            obtain ⟨τ6, G6, in6, z⟩ := got
            exact gone in6 fun s7 I7 => ⟨_, _, I7, z⟩
          | brk =>
            obtain ⟨τ6, G6, in6, z⟩ := got
            exact gone in6 fun s7 I7 => ⟨_, _, I7, z⟩
          | cont =>
            obtain ⟨τ6, G6, in6, z⟩ := got
            exact gone in6 fun s7 I7 => ⟨_, _, I7, z⟩
    exact walkC cs want2
  refine wpAny_mono ((hb (wAllK X.K i Wo D l) (X.pn ++ pins) after caught PassesOwn.looking).run [] s σ H D (I.toTry _) want) (fun fl s1 got => ?_) (fun _ _ z => z)
  cases fl with
  | ret u =>
    obtain ⟨v, τ, G, I2, r2, z⟩ := got
    exact ⟨v, τ, G, I2.ofTry okX, r2, z⟩
  | next =>
    obtain ⟨τ, G, I2, z⟩ := got
    exact wpAny_execs_nil ⟨τ, G, I2.ofTry okX, z⟩
  | brk =>
    obtain ⟨τ, G, I2, z⟩ := got
    exact ⟨τ, G, I2.ofTry okX, z⟩
  | cont =>
    obtain ⟨τ, G, I2, z⟩ := got
    exact ⟨τ, G, I2.ofTry okX, z⟩
end

/-! ### what is asked of such an object -/
def ErrR (H : Hp) (a C dx : Addr) (fs : List (Str × V)) : Prop := H a = some (exr a (.ref C) (some dx)) ∧ H dx = some (.xd fs)
theorem ErrR.ex {H G : Hp} {a C dx : Addr} {fs : List (Str × V)} (e : _root_.Evl.Ex H G) (h : ErrR H a C dx fs) : ErrR G a C dx fs := ⟨e _ _ h.1, e _ _ h.2⟩
theorem ErrR.inst {X : Cx} {pins : List (Addr × Obj)} {σ : L2.St} {H : Hp} {s : Shared} {a C dx : Addr} {fs : List (Str × V)} (I : Inv X pins σ H s) (h : ErrR H a C dx fs) :
    ∃ (oe : Obj) (mA : Str → Option Value) (od : Obj), PySem.W.InstAt s.heap a oe C (some od) ∧ (∀ f, RelO (fs.lookup f) (mA f)) ∧ (∀ f, PySem.W.lookIn f od = some (mA f)) := by
  obtain ⟨⟨oe, vs, ho, hz, hdt⟩, _, _⟩ := (show ObjOk X.prog X.w H s.heap a (exr a (.ref C) (some dx)) from I.hok a _ h.1)
  obtain ⟨mA, hns, hr⟩ := (show ObjOk X.prog X.w H s.heap dx (.xd fs) from I.hok dx _ h.2)
  obtain ⟨od, hod, hl⟩ := lookIn_ns hns
  exact ⟨oe, mA, od, ⟨ho, hz.1, by unfold PySem.W.notCls; rw [hdt] <;> rfl, by rw [hz.2]; exact hod⟩, hr, hl⟩
/-- isinstance(x, c) and isinstance(x, (c1, c2, ..)) -/
def rIsR (K : PySem.W.Frag) : List V → Hp → VK → Prop := fun xs H Q => ∃ (a C dx : Addr) (fs : List (Str × V)) (y : V) (b : Bool), xs = [.ref a, y] ∧ ExcC K C ∧ ErrR H a C dx fs ∧
  ((∃ cv, ClsV y cv ∧ PySem.W.kitOne K (.ref C) cv = some b) ∨ ∃ (tp : Addr) (cs : List V) (us : List Value), y = .ref tp ∧ H tp = some (.tup cs) ∧ Paired ClsV cs us ∧ PySem.W.kitAny K (.ref C) us = some b) ∧ Q (.bl b) H
theorem call_isR {X : Cx} : CallR X (.builtin "isinstance") (rIsR X.K) := by
  intro pins s σ H xs us Q I r h
  obtain ⟨a, C, dx, fs, y, b, rfl, cls, ha, k, q⟩ := h
  obtain ⟨u1, u2, rfl, r1, r2⟩ := vals2 r
  cases (show u1 = Value.ref a from r1)
  obtain ⟨oe, mA, od, J, _⟩ := ha.inst I
  have hcl : (PySem.W.clsIn X.K C).isSome = true := by
    obtain ⟨cd, hc, _⟩ := PySem.W.any_some cls.hd
    rw [hc]
    rfl
  have Z := PySem.W.kitx_exc (K := X.K) (x := a) (C := C) (ox := oe) (od := some od) hcl cls.hg cls.hk cls.hs cls.ha cls.hn cls.ht cls.hm
  rcases k with ⟨cv, k, e⟩ | ⟨tp, cs, us, rfl, hT, k, e⟩
  · have e2 := k.eq r2
    subst e2
    exact PySem.W.kia_one Z I.kIn J e (fun z => nomatch z) fun tk => ⟨.bl b, H, I.tok tk, rfl, q⟩
  · cases (show u2 = Value.ref tp from r2)
    obtain ⟨_, its, rv, o, h1, h2, n, h3⟩ := (show ObjOk X.prog X.w H s.heap tp (.tup cs) from I.hok tp _ hT)
    have e3 := ClsV.all k rv
    subst e3
    obtain ⟨oc, od', dt, sl⟩ := o
    simp only at h2 h3
    subst h2 h3
    exact PySem.W.kia_tup Z I.kIn J h1 e (fun z => nomatch z) fun tk => ⟨.bl b, H, I.tok tk, rfl, q⟩
/-- x.f -/
structure FldR (K : PySem.W.Frag) (C : Addr) (f : Str) : Prop where
  ga : PySem.W.findIn K (.ref C) "__getattribute__" = some (some (.builtin "BaseException.__getattribute__"))
  gg : PySem.W.findIn K (.ref C) "__getattr__" = some none
  noN : PySem.W.findIn K (.ref C) f = some none
  exC : PySem.W.subIn K (.ref C) (.type "BaseException") = some true
  hdC : PySem.W.hasDictIn K C = true
theorem FldR.of {P : Program} {K : PySem.W.Frag} {mg : Str → Option Value} {nmE fld : Str} {C fI : Addr} (T : SupX.ErrTxt P K mg nmE fld C fI) : FldR K C fld := ⟨T.ga, T.gg, T.noN, T.exC, T.hdC⟩
def tErrRF (K : PySem.W.Frag) (f : Str) (te : TE) : TE := fun σ H Q => te σ H fun x H1 => ∃ (a C dx : Addr) (fs : List (Str × V)) (v : V), x = .ref a ∧ FldR K C f ∧ ErrR H1 a C dx fs ∧ fs.lookup f = some v ∧ Q v H1
theorem pe_errRF {X : Cx} {K : PySem.W.Frag} {e : Expr} {te : TE} {f : Str} {pos : Pos} (hK : X.K = K) (he : PE X e te) (hb : attributeBase e f X.env (eval e X.env) = eval e X.env := by rfl) : PE X (.Attribute e f pos) (tErrRF K f te) := by
  subst hK
  refine ⟨fun pins s σ H Q I h => ?_⟩
  refine attr_of hb (thn (he.run pins s σ H _ I h) fun u s1 ⟨x, H1, I1, rx, a, C, dx, fs, v, ex, T, ea, l, q⟩ => ?_)
  subst ex
  obtain rfl : u = Value.ref a := rx
  obtain ⟨oe, mA, od, J, hr, hl⟩ := ea.inst I1
  obtain ⟨w, hw, rw'⟩ := RelO.some_of (v := v) (o := mA f) (by rw [← l]; exact hr f)
  exact HandSPX.exc_get I1.kIn J T.ga T.gg T.exC (PySem.W.findObj_own T.hdC T.noN rfl (by rw [hl, hw])) (handed_of rw') ⟨v, H1, I1.tok _, rw', q⟩
end HX

set_option Elab.async false
set_option linter.all false
set_option maxRecDepth 100000
set_option maxHeartbeats 4000000

namespace Kx
open PySem PySem.Spec PyProof.Rows L2 HX TL
open Evl (Ex)
local macro_rules | `(tactic| walk_at "len") => `(tactic| first | assumption | exact le_line (by assumption) | exact le_line (by omega) | exact le_line (Nat.le_trans (cutS_length _ _ _) (by omega)) | (rw [sizeLine_eq]; omega))
local macro_rules | `(tactic| walk_at "side") => `(tactic| first | assumption | ((try dsimp only); first | assumption | decide +kernel | omega | exact ⟨by decide, by decide⟩ | (left; decide) | (left; omega) | (refine Or.inl ⟨?_, ?_⟩ <;> omega) | (refine Or.inr ⟨?_, ?_⟩ <;> omega)))
local macro_rules | `(tactic| walk_at "heap") => `(tactic| first | assumption | exact upd_same | exact Or.inl (by assumption) | exact Or.inl upd_same)
local macro_rules | `(tactic| walk_at "item") => `(tactic| first | exact rfl | exact atI_nat (j := 0) rfl | exact atI_nat (j := 1) rfl | exact atI_nat (j := 2) rfl | assumption)
local macro_rules | `(tactic| walk_at "rd") => `(tactic| repeat (first
  | ((with_reducible refine' go_var ?hv ?_); (case hv => exact rfl))
  | with_reducible refine' go_c ?_
  | with_reducible refine' go_op ?_
  | with_reducible refine' go_seq ?_
  | with_reducible refine' go_asg ?_
  | with_reducible refine' go_name ?_
  | with_reducible refine' go_cons ?_
  | with_reducible refine' go_nil ?_
  | with_reducible refine' go_cb ?_
  | with_reducible refine' go_call ?_
  | with_reducible refine' go_ifS ?_
  | with_reducible refine' go_test ?_
  | with_reducible refine' go_bl ?_
  | with_reducible refine' go_ret ?_
  | with_reducible refine' go_I0 ?_
  | ((with_reducible refine' go_I ?cc ?_); (case cc => walk_at "side"))
  | ((with_reducible refine' go_ixL ?hh ?hk ?_); (case hh => walk_at "heap"); (case hk => walk_at "item"))
  | ((with_reducible refine' go_ixT ?hh ?hk ?_); (case hh => walk_at "heap"); (case hk => walk_at "item"))
  | ((with_reducible refine' go_lenL ?hh ?_); (case hh => walk_at "heap"))
  | ((with_reducible refine' go_lenT ?hh ?_); (case hh => walk_at "heap"))
  | ((with_reducible refine' go_setL ?hh ?hk ?_); (case hh => walk_at "heap"); (case hk => walk_at "item"))
  | with_reducible refine' go_abs ?_
  | with_reducible refine' go_max ?_
  | with_reducible refine' go_min ?_
  | with_reducible refine' go_int ?_
  | with_reducible refine' go_intB ?_
  | (with_reducible refine' go_eq rfl ?_)
  | (with_reducible refine' go_ne rfl ?_)
  | with_reducible refine' go_isN ?_
  | with_reducible refine' go_notN ?_
  | with_reducible refine' go_if ?_
  | with_reducible refine' go_sub ?_
  | with_reducible refine' go_par ?_
  | with_reducible refine' go_sl ?_
  | with_reducible refine' go_part ?_
  | with_reducible refine' go_pint ?_
  | with_reducible refine' go_nopart ?_
  | ((with_reducible refine' go_lenL ?hh ?_); (case hh => walk_at "heap"))
  | ((with_reducible refine' go_lenT ?hh ?_); (case hh => walk_at "heap"))
  | ((with_reducible refine' go_lenS ?hh ?_); (case hh => assumption))
  | with_reducible refine' go_gcons ?_
  | with_reducible refine' go_gnil ?_
  | with_reducible refine' go_kw ?_
  | with_reducible refine' go_par2 ?_
  | with_reducible refine' go_next ?_
  | with_reducible refine' go_drop ?_
  | with_reducible refine' go_and ?_
  | with_reducible refine' go_or ?_
  | with_reducible refine' go_not ?_
  | with_reducible refine' go_B ?_
  | with_reducible refine' go_andV ?_
  | with_reducible refine' go_orV ?_
  | with_reducible refine' go_notV ?_
  | with_reducible refine' go_chain ?_
  | with_reducible refine' go_un ?_
  | with_reducible refine' go_U ?_
  | with_reducible refine' go_bm ?_
  | with_reducible refine' go_tup ?_
  | with_reducible refine' go_lst ?_
  | with_reducible refine' go_forR1 ?_
  | with_reducible refine' go_forR2 ?_
  | with_reducible refine' go_forL ?_
  | with_reducible refine' go_forT ?_
  | with_reducible refine' go_forE ?_
  | with_reducible refine' go_lcR1 ?_
  | with_reducible refine' go_lcL ?_
  | with_reducible refine' go_lcT ?_
  | ((with_reducible refine' go_tyL ?hh ?_); (case hh => walk_at "heap"))
  | ((with_reducible refine' go_new ?hz ?_); (case hz => exact Nat.le_of_ble_eq_true rfl))
  | with_reducible refine' go_par3 ?_
  | with_reducible refine' go_three ?_
  | with_reducible refine' go_m1 ?_
  | with_reducible refine' go_isS ?_
  | with_reducible refine' go_rSw ?_
  | with_reducible refine' go_rFnd ?_
  | ((with_reducible refine' go_rPrt (by decide +kernel) ?hz ?_); (case hz => walk_at "len"))
  | ((with_reducible refine' go_rSpl (by decide +kernel) ?hz ?_); (case hz => walk_at "len"))
  | ((with_reducible refine' go_rLenS ?hz ?_); (case hz => walk_at "len"))
  | ((with_reducible refine' go_slS ?hz ?_); (case hz => walk_at "len"))
  | with_reducible refine' go_sgn ?_
  | with_reducible refine' go_nsg ?_
  | with_reducible refine' go_lcS ?_
  | (with_reducible refine' ⟨_, rfl, ?_⟩)
  ))
--MACEND
theorem wAllK_yes {K : PySem.W.Frag} {i : Nat} {Wo : WX} {D : Ends} {c : Value} {t : Addr → Value → Option Addr → TS} {more : List (Value × (Addr → Value → Option Addr → TS))} {cl : Value} {dd : Option Addr} {τ : L2.St} {G : Hp}
    (m : PySem.W.exmOne K cl c = some true) (k : ∀ x, G x = none → t x cl dd (Ends.keep i x cl dd D) (τ.set i (some (.ref x))) G) : wAllK K i Wo D ((c, t) :: more) cl dd τ G := ⟨true, m, (fun _ => k), (fun z => nomatch z)⟩
theorem go_keep {i : Nat} {x : Addr} {cl : Value} {dd : Option Addr} {D : Ends} {τ : L2.St} {G : Hp} (h : D.nx (τ.set i none) (upd G x (exr x cl dd))) : (Ends.keep i x cl dd D).nx τ G := h
theorem go_isR1 {K : PySem.W.Frag} {H : Hp} {Q : VK} {a C dx : Addr} {fs : List (Str × V)} {y : V} {cv : Value} {b : Bool} (T : ExcC K C) (h : ErrR H a C dx fs) (k : ClsV y cv) (e : PySem.W.kitOne K (.ref C) cv = some b) (q : Q (.bl b) H) : rIsR K [.ref a, y] H Q :=
  ⟨a, C, dx, fs, y, b, rfl, T, h, .inl ⟨cv, k, e⟩, q⟩
theorem go_isRT {K : PySem.W.Frag} {H : Hp} {Q : VK} {a C dx tp : Addr} {fs : List (Str × V)} {cs : List V} {us : List Value} {b : Bool} (T : ExcC K C) (h : ErrR H a C dx fs) (ht : H tp = some (.tup cs)) (k : Paired ClsV cs us) (e : PySem.W.kitAny K (.ref C) us = some b) (q : Q (.bl b) H) : rIsR K [.ref a, .ref tp] H Q :=
  ⟨a, C, dx, fs, .ref tp, b, rfl, T, h, .inr ⟨tp, cs, us, rfl, ht, k, e⟩, q⟩
theorem go_errRF {K : PySem.W.Frag} {f : Str} {te : TE} {σ : L2.St} {H : Hp} {Q : VK} (h : te σ H fun x H1 => ∃ (a C dx : Addr) (fs : List (Str × V)) (v : V), x = .ref a ∧ FldR K C f ∧ ErrR H1 a C dx fs ∧ fs.lookup f = some v ∧ Q v H1) : tErrRF K f te σ H Q := h
theorem parR_err : ∀ (ws : List (List Nat)) (i j : Nat) (ss : List Stg) (r : Option Int), parR ws i ss r = .error j → j < i + ws.length
  | [], _, _, _, _, e => by simp [parR] at e
  | _ :: _, i, j, ss, some _, e => by simp [parR] at e; simp; omega
  | w :: ws, i, j, ss, none, e => by
    rw [parR] at e
    split at e
    · have := parR_err ws _ _ _ _ e
      simp only [List.length_cons]; omega
    · split at e
      · cases e; simp
      · split at e
        · have := parR_err ws _ _ _ _ e
          simp only [List.length_cons]; omega
        · cases e; simp
theorem parL_err : ∀ (ws : List (List Nat)) (i j : Nat) (ls : List Lk), parL ws i ls = .error j → j < i + ws.length
  | [], _, _, _, e => by simp [parL] at e
  | w :: ws, i, j, ls, e => by
    rw [parL] at e
    split at e
    · cases e; simp
    · split at e
      · cases e; simp
      · have := parL_err ws _ _ _ e
        simp only [List.length_cons]; omega
theorem words_len {t : Str} (h : t.length ≤ 1000000) : (words t).length ≤ 1000002 := by
  have := fact_split t (Str.ofString " ")
  unfold words
  rw [List.length_map]
  omega
theorem int_fine {t : Str} {i : Nat} (hp : parR (words t) 0 [] none = .error i) (ht : t.length ≤ 1000000) : Fine 600 0 (.int i) := by
  have := parR_err _ _ _ _ _ hp
  have := words_len ht
  refine Fine.int (Nat.lt_of_le_of_lt (show ((i : Int).natAbs) ≤ 2000000 by omega) (by decide +kernel))
theorem int_fineL {t : Str} {i : Nat} (hp : parL (words t) 0 [] = .error i) (ht : t.length ≤ 1000000) : Fine 600 0 (.int i) := by
  have := parL_err _ _ _ _ hp
  have := words_len ht
  refine Fine.int (Nat.lt_of_le_of_lt (show ((i : Int).natAbs) ≤ 2000000 by omega) (by decide +kernel))
def resW (kind : Int) : PyData → Str
  | .str t => if kind = 0 then (match parR (words t) 0 [] none with | .ok _ => Str.ofString "fine" | .error i => Str.ofString (toString (i : Int))) else (match parL (words t) 0 [] with | .ok _ => Str.ofString "fine" | .error i => Str.ofString (toString (i : Int)))
  | _ => Str.ofString "None"
def spRaised : Sp := fun vs H Q _ => ∃ (kind : Int) (x : V) (d : PyData) (w k : Nat), vs = [.int kind, x] ∧ Dq H x d ∧ Fine w k d ∧ w ≤ 80000 ∧ k ≤ 60 ∧ (∀ t, d = .str t → t.length ≤ 1000000) ∧ ∀ H', Ex H H' → Q (.str (resW kind d)) H'
theorem resW_none {kind : Int} {d : PyData} (h : pStr d = false) : resW kind d = Str.ofString "None" := by
  cases d <;> first | rfl | simp [pStr] at h
section
variable {P : Program} {w : World} {K : PySem.W.Frag} {mg : Str → Option Value} {base : Heap} {CS CT fI c1 c2 c3 c4 c5 c6 c7 c8 c9 c10 c11 : Addr}
abbrev s__law_raised : Stmt := top 41
theorem sc__law_raised : FnScope ["kind", "thing", "kept", "caught", "e", "odd", "is_one"] ["kind", "thing"] (defScope s__law_raised) := ⟨rfl, rfl, rfl, by decide +kernel, rfl, by decide +kernel, by decide +kernel⟩
theorem ok_law_raised {f : Addr} {fd : FuncData} (F : Fun K "_law_raised" "_law_raised" s__law_raised f fd) (T_InvalidSyntax : SupX.ErrTxt P K mg "InvalidSyntax" "word" CS fI) (g_InvalidSyntax : mg "InvalidSyntax" = some (.ref CS)) (g_ToneError : mg "ToneError" = some (.ref CT))
    (g_Impossible : mg "Impossible" = some (.ref c1)) (g_InvalidBand : mg "InvalidBand" = some (.ref c2)) (g_InvalidCommand : mg "InvalidCommand" = some (.ref c3)) (g_InvalidDial : mg "InvalidDial" = some (.ref c4)) (g_InvalidLooks : mg "InvalidLooks" = some (.ref c5)) (g_InvalidNumber : mg "InvalidNumber" = some (.ref c6))
    (g_InvalidReceiver : mg "InvalidReceiver" = some (.ref c7)) (g_InvalidSignal : mg "InvalidSignal" = some (.ref c8)) (g_InvalidSignals : mg "InvalidSignals" = some (.ref c9)) (g_InvalidTone : mg "InvalidTone" = some (.ref c10)) (g_NothingToUndo : mg "NothingToUndo" = some (.ref c11))
    (m_isinstance : mg "isinstance" = none) (m_repr : mg "repr" = none) (m_ValueError : mg "ValueError" = none) (h_parse_receiver : HasX P w K mg base 6 "parse_receiver" (spParR CS)) (h_parse_looks : HasX P w K mg base 6 "parse_looks" (spParL CS))
    (eS : ExcC K CS) (xT : PySem.W.exmOne K (.ref CS) (.ref CT) = some true) (kA : PySem.W.kitAny K (.ref CS) [.ref c1, .ref c2, .ref c3, .ref c4, .ref c5, .ref c6] = some false) (kB : PySem.W.kitAny K (.ref CS) [.ref c7, .ref c8, .ref c9, .ref c10, .ref c11] = some false)
    (kS : PySem.W.kitOne K (.ref CS) (.ref CS) = some true) (kV : PySem.W.kitOne K (.ref CS) (.type "ValueError") = some true) :
    FnG P w K mg base CX0 7 f fd ["kind", "thing"] spRaised := by
  refine okG F sc__law_raised (fun vs H Q E h => ?_) (fun cdv A outer s H vs Q E hgd hr h => ?_)
  · obtain ⟨kind, x, d, w, k, rfl, _⟩ := h
    rfl
  · obtain ⟨kind, x, d, wt, dp, rfl, hd, hf, hw, hk, hlen, k⟩ := h
    refine ⟨_, PSs.nox ((pss_cons (ps_par (i := 2) (j := 3) (by rfl) sc__law_raised.nd rfl rfl (by decide) rfl rfl (pa_cons (pe_callB (call_repr hgd hr.units) rfl m_repr (by decide +kernel) (pa_cons (pv 1) pa_nil)) (pa_cons pe_non pa_nil)) (by rfl))
  (pss_cons (ps_try_allK (i := 4) rfl rfl sc__law_raised.nd rfl rfl takes0N (fun W pn xe tk _ => (pss_one (ps_if (pt_cmpR op_eq (pv 0) pe_int (nomark _))
  (pss_one (ps_expr (pe_hsS h_parse_receiver hr rfl (fun σ => L2N.passAt tk σ) (pa_cons (pv 1) pa_nil))))
  (pss_one (ps_expr (pe_hsS h_parse_looks hr rfl (fun σ => L2N.passAt tk σ) (pa_cons (pv 1) pa_nil))))))) (.cons ⟨rfl, by decide, .inl g_ToneError⟩ (fun a oe cls d pn hz hf => (pss_one (ps_set (i := 3) sc__law_raised.nd rfl (Or.inl rfl) (pv 4))))
  .nil))
  (pss_cons (ps_if (pt_cmpR op_ne (pe_callB (call_repr hgd hr.units) rfl m_repr (by decide +kernel) (pa_cons (pv 1) pa_nil)) (pv 2) (nomark _))
  (pss_one (ps_ret pe_str))
  pss_nil)
  (pss_cons (ps_if (pt_cmpR op_isN1 (pv 3) pe_non (nomark _))
  (pss_one (ps_ret pe_str))
  pss_nil)
  (pss_cons (ps_set (i := 5) sc__law_raised.nd rfl (Or.inl rfl) (pe_callB call_isR rfl m_isinstance (by decide +kernel) (pa_cons (pv 3) (pa_cons (pe_tup (pa_cons (pe_glob (v := V.ref _) rfl g_Impossible rfl) (pa_cons (pe_glob (v := V.ref _) rfl g_InvalidBand rfl) (pa_cons (pe_glob (v := V.ref _) rfl g_InvalidCommand rfl) (pa_cons (pe_glob (v := V.ref _) rfl g_InvalidDial rfl) (pa_cons (pe_glob (v := V.ref _) rfl g_InvalidLooks rfl) (pa_cons (pe_glob (v := V.ref _) rfl g_InvalidNumber rfl) pa_nil))))))) pa_nil))))
  (pss_cons (ps_set (i := 5) sc__law_raised.nd rfl (Or.inl rfl) (pe_or (pv 5) (pe_one (pe_callB call_isR rfl m_isinstance (by decide +kernel) (pa_cons (pv 3) (pa_cons (pe_tup (pa_cons (pe_glob (v := V.ref _) rfl g_InvalidReceiver rfl) (pa_cons (pe_glob (v := V.ref _) rfl g_InvalidSignal rfl) (pa_cons (pe_glob (v := V.ref _) rfl g_InvalidSignals rfl) (pa_cons (pe_glob (v := V.ref _) rfl g_InvalidTone rfl) (pa_cons (pe_glob (v := V.ref _) rfl g_NothingToUndo rfl) pa_nil)))))) pa_nil))))))
  (pss_cons (ps_set (i := 6) sc__law_raised.nd rfl (Or.inl rfl) (pe_and (pe_callB call_isR rfl m_isinstance (by decide +kernel) (pa_cons (pv 3) (pa_cons (pe_glob (v := V.ref _) rfl g_InvalidSyntax rfl) pa_nil))) (pe_and (pe_callB call_isR rfl m_isinstance (by decide +kernel) (pa_cons (pv 3) (pa_cons (pe_bltn (v := .ty "ValueError") (u := .type "ValueError") rfl m_ValueError (by decide +kernel) rfl) pa_nil))) (pe_one (pe_not (pv 5))))))
  (pss_one (ps_ret (pe_ifExp (pt_val (pv 6)) (pe_callB (call_repr hgd hr.units) rfl m_repr (by decide +kernel) (pa_cons (pe_errRF (K := K) rfl (pv 3)) pa_nil)) pe_str))))))))))), ?_⟩
    walk_at "rd"
    refine go_repr hd hf hw hk ?_
    walk_at "rd"
    refine ite2 (fun c => ?_) (fun c => ?_)
    · have hk0 : kind = 0 := by simpa using c
      subst hk0
      refine go_callS ?_
      walk_at "rd"
      refine ⟨x, d, rfl, hd, fun hn => ?_, fun t et => ⟨hlen t et, ?_⟩⟩
      · have fin : ∀ H', Ex H H' → Q (.str (Str.ofString "None")) H' := fun H' e => by have := k H' e; rw [resW_none hn] at this; exact this
        intro G dd e1 nd hdd
        refine wAllK_yes xT fun xe hxe => ?_
        walk_at "rd"
        refine go_keep ?_
        have ex := Ex.new (o := exr xe (Value.ref CS) (some dd)) hxe
        have er : ErrR (upd G xe (exr xe (Value.ref CS) (some dd))) xe CS dd [("word", .non)] := ⟨upd_same, ex _ _ hdd⟩
        have eA := e1.trans ex
        generalize upd G xe (exr xe (Value.ref CS) (some dd)) = G1 at *
        walk_at "rd"
        refine go_repr (hd.ex eA) hf hw hk ?_
        walk_at "rd"
        rw [decide_eq_true rfl]
        refine iteF ?_
        walk_at "rd"
        refine iteF ?_
        walk_at "rd"
        intro t1 n1
        walk_at "rd"
        refine go_isRT eS (er.ex (Ex.new n1)) upd_same (.cons (.own _) (.cons (.own _) (.cons (.own _) (.cons (.own _) (.cons (.own _) (.cons (.own _) .nil)))))) kA ?_
        have eB := eA.trans (Ex.new (o := HO.tup [V.ref c1, V.ref c2, V.ref c3, V.ref c4, V.ref c5, V.ref c6]) n1)
        have er2 := er.ex (Ex.new (o := HO.tup [V.ref c1, V.ref c2, V.ref c3, V.ref c4, V.ref c5, V.ref c6]) n1)
        walk_at "rd"
        refine iteF ?_
        walk_at "rd"
        intro t2 n2
        walk_at "rd"
        refine go_isRT eS (er2.ex (Ex.new n2)) upd_same (.cons (.own _) (.cons (.own _) (.cons (.own _) (.cons (.own _) (.cons (.own _) .nil))))) kB ?_
        have eC := eB.trans (Ex.new (o := HO.tup [V.ref c7, V.ref c8, V.ref c9, V.ref c10, V.ref c11]) n2)
        have er3 := er2.ex (Ex.new (o := HO.tup [V.ref c7, V.ref c8, V.ref c9, V.ref c10, V.ref c11]) n2)
        walk_at "rd"
        refine go_isR1 eS er3 (.own _) kS ?_
        walk_at "rd"
        refine iteT ?_
        walk_at "rd"
        refine go_isR1 eS er3 (.ty _) kV ?_
        walk_at "rd"
        refine iteT ?_
        walk_at "rd"
        refine iteT ?_
        refine go_errRF ?_
        walk_at "rd"
        refine ⟨xe, CS, dd, _, .non, rfl, FldR.of T_InvalidSyntax, er3, rfl, ?_⟩
        refine go_repr (.non) Fine.none (by decide) (by decide) ?_
        exact fin _ eC
      · cases et
        cases hp : parR (words t) 0 [] none with
        | ok sr =>
          have fin : ∀ H', Ex H H' → Q (.str (Str.ofString "fine")) H' := fun H' e => by have := k H' e; rw [resW, if_pos rfl, hp] at this; exact this
          obtain ⟨ss, r⟩ := sr
          intro p l vs H' e1 np nl pl hp' hl hT
          walk_at "rd"
          refine go_repr (hd.ex e1) hf hw hk ?_
          walk_at "rd"
          rw [decide_eq_true rfl]
          refine iteF ?_
          walk_at "rd"
          refine iteT ?_
          walk_at "rd"
          exact fin _ e1
        | error i =>
          have fin : ∀ H', Ex H H' → Q (.str (PyData.int i).shown) H' := fun H' e => by have := k H' e; rw [resW, if_pos rfl, hp] at this; simpa only [PyData.shown] using this
          have hi : Fine 600 0 (.int i) := int_fine hp (hlen t rfl)
          intro G dd e1 nd hdd
          refine wAllK_yes xT fun xe hxe => ?_
          walk_at "rd"
          refine go_keep ?_
          have ex := Ex.new (o := exr xe (Value.ref CS) (some dd)) hxe
          have er : ErrR (upd G xe (exr xe (Value.ref CS) (some dd))) xe CS dd [("word", .int i)] := ⟨upd_same, ex _ _ hdd⟩
          have eA := e1.trans ex
          generalize upd G xe (exr xe (Value.ref CS) (some dd)) = G1 at *
          walk_at "rd"
          refine go_repr (hd.ex eA) hf hw hk ?_
          walk_at "rd"
          rw [decide_eq_true rfl]
          refine iteF ?_
          walk_at "rd"
          refine iteF ?_
          walk_at "rd"
          intro t1 n1
          walk_at "rd"
          refine go_isRT eS (er.ex (Ex.new n1)) upd_same (.cons (.own _) (.cons (.own _) (.cons (.own _) (.cons (.own _) (.cons (.own _) (.cons (.own _) .nil)))))) kA ?_
          have eB := eA.trans (Ex.new (o := HO.tup [V.ref c1, V.ref c2, V.ref c3, V.ref c4, V.ref c5, V.ref c6]) n1)
          have er2 := er.ex (Ex.new (o := HO.tup [V.ref c1, V.ref c2, V.ref c3, V.ref c4, V.ref c5, V.ref c6]) n1)
          walk_at "rd"
          refine iteF ?_
          walk_at "rd"
          intro t2 n2
          walk_at "rd"
          refine go_isRT eS (er2.ex (Ex.new n2)) upd_same (.cons (.own _) (.cons (.own _) (.cons (.own _) (.cons (.own _) (.cons (.own _) .nil))))) kB ?_
          have eC := eB.trans (Ex.new (o := HO.tup [V.ref c7, V.ref c8, V.ref c9, V.ref c10, V.ref c11]) n2)
          have er3 := er2.ex (Ex.new (o := HO.tup [V.ref c7, V.ref c8, V.ref c9, V.ref c10, V.ref c11]) n2)
          walk_at "rd"
          refine go_isR1 eS er3 (.own _) kS ?_
          walk_at "rd"
          refine iteT ?_
          walk_at "rd"
          refine go_isR1 eS er3 (.ty _) kV ?_
          walk_at "rd"
          refine iteT ?_
          walk_at "rd"
          refine iteT ?_
          refine go_errRF ?_
          walk_at "rd"
          refine ⟨xe, CS, dd, _, .int i, rfl, FldR.of T_InvalidSyntax, er3, rfl, ?_⟩
          refine go_repr (.int _) hi (by decide) (by decide) ?_
          exact fin _ eC
    · have hk0 : ¬ kind = 0 := fun z => c (by rw [z]; rfl)
      refine go_callS ?_
      walk_at "rd"
      refine ⟨x, d, rfl, hd, fun hn => ?_, fun t et => ⟨hlen t et, ?_⟩⟩
      · have fin : ∀ H', Ex H H' → Q (.str (Str.ofString "None")) H' := fun H' e => by have := k H' e; rw [resW_none hn] at this; exact this
        intro G dd e1 nd hdd
        refine wAllK_yes xT fun xe hxe => ?_
        walk_at "rd"
        refine go_keep ?_
        have ex := Ex.new (o := exr xe (Value.ref CS) (some dd)) hxe
        have er : ErrR (upd G xe (exr xe (Value.ref CS) (some dd))) xe CS dd [("word", .non)] := ⟨upd_same, ex _ _ hdd⟩
        have eA := e1.trans ex
        generalize upd G xe (exr xe (Value.ref CS) (some dd)) = G1 at *
        walk_at "rd"
        refine go_repr (hd.ex eA) hf hw hk ?_
        walk_at "rd"
        rw [decide_eq_true rfl]
        refine iteF ?_
        walk_at "rd"
        refine iteF ?_
        walk_at "rd"
        intro t1 n1
        walk_at "rd"
        refine go_isRT eS (er.ex (Ex.new n1)) upd_same (.cons (.own _) (.cons (.own _) (.cons (.own _) (.cons (.own _) (.cons (.own _) (.cons (.own _) .nil)))))) kA ?_
        have eB := eA.trans (Ex.new (o := HO.tup [V.ref c1, V.ref c2, V.ref c3, V.ref c4, V.ref c5, V.ref c6]) n1)
        have er2 := er.ex (Ex.new (o := HO.tup [V.ref c1, V.ref c2, V.ref c3, V.ref c4, V.ref c5, V.ref c6]) n1)
        walk_at "rd"
        refine iteF ?_
        walk_at "rd"
        intro t2 n2
        walk_at "rd"
        refine go_isRT eS (er2.ex (Ex.new n2)) upd_same (.cons (.own _) (.cons (.own _) (.cons (.own _) (.cons (.own _) (.cons (.own _) .nil))))) kB ?_
        have eC := eB.trans (Ex.new (o := HO.tup [V.ref c7, V.ref c8, V.ref c9, V.ref c10, V.ref c11]) n2)
        have er3 := er2.ex (Ex.new (o := HO.tup [V.ref c7, V.ref c8, V.ref c9, V.ref c10, V.ref c11]) n2)
        walk_at "rd"
        refine go_isR1 eS er3 (.own _) kS ?_
        walk_at "rd"
        refine iteT ?_
        walk_at "rd"
        refine go_isR1 eS er3 (.ty _) kV ?_
        walk_at "rd"
        refine iteT ?_
        walk_at "rd"
        refine iteT ?_
        refine go_errRF ?_
        walk_at "rd"
        refine ⟨xe, CS, dd, _, .non, rfl, FldR.of T_InvalidSyntax, er3, rfl, ?_⟩
        refine go_repr (.non) Fine.none (by decide) (by decide) ?_
        exact fin _ eC
      · cases et
        cases hp : parL (words t) 0 [] with
        | ok sr =>
          have fin : ∀ H', Ex H H' → Q (.str (Str.ofString "fine")) H' := fun H' e => by have := k H' e; rw [resW, if_neg hk0, hp] at this; exact this
          intro l vs H' e1 nl hl hT
          walk_at "rd"
          refine go_repr (hd.ex e1) hf hw hk ?_
          walk_at "rd"
          rw [decide_eq_true rfl]
          refine iteF ?_
          walk_at "rd"
          refine iteT ?_
          walk_at "rd"
          exact fin _ e1
        | error i =>
          have fin : ∀ H', Ex H H' → Q (.str (PyData.int i).shown) H' := fun H' e => by have := k H' e; rw [resW, if_neg hk0, hp] at this; simpa only [PyData.shown] using this
          have hi : Fine 600 0 (.int i) := int_fineL hp (hlen t rfl)
          intro G dd e1 nd hdd
          refine wAllK_yes xT fun xe hxe => ?_
          walk_at "rd"
          refine go_keep ?_
          have ex := Ex.new (o := exr xe (Value.ref CS) (some dd)) hxe
          have er : ErrR (upd G xe (exr xe (Value.ref CS) (some dd))) xe CS dd [("word", .int i)] := ⟨upd_same, ex _ _ hdd⟩
          have eA := e1.trans ex
          generalize upd G xe (exr xe (Value.ref CS) (some dd)) = G1 at *
          walk_at "rd"
          refine go_repr (hd.ex eA) hf hw hk ?_
          walk_at "rd"
          rw [decide_eq_true rfl]
          refine iteF ?_
          walk_at "rd"
          refine iteF ?_
          walk_at "rd"
          intro t1 n1
          walk_at "rd"
          refine go_isRT eS (er.ex (Ex.new n1)) upd_same (.cons (.own _) (.cons (.own _) (.cons (.own _) (.cons (.own _) (.cons (.own _) (.cons (.own _) .nil)))))) kA ?_
          have eB := eA.trans (Ex.new (o := HO.tup [V.ref c1, V.ref c2, V.ref c3, V.ref c4, V.ref c5, V.ref c6]) n1)
          have er2 := er.ex (Ex.new (o := HO.tup [V.ref c1, V.ref c2, V.ref c3, V.ref c4, V.ref c5, V.ref c6]) n1)
          walk_at "rd"
          refine iteF ?_
          walk_at "rd"
          intro t2 n2
          walk_at "rd"
          refine go_isRT eS (er2.ex (Ex.new n2)) upd_same (.cons (.own _) (.cons (.own _) (.cons (.own _) (.cons (.own _) (.cons (.own _) .nil))))) kB ?_
          have eC := eB.trans (Ex.new (o := HO.tup [V.ref c7, V.ref c8, V.ref c9, V.ref c10, V.ref c11]) n2)
          have er3 := er2.ex (Ex.new (o := HO.tup [V.ref c7, V.ref c8, V.ref c9, V.ref c10, V.ref c11]) n2)
          walk_at "rd"
          refine go_isR1 eS er3 (.own _) kS ?_
          walk_at "rd"
          refine iteT ?_
          walk_at "rd"
          refine go_isR1 eS er3 (.ty _) kV ?_
          walk_at "rd"
          refine iteT ?_
          walk_at "rd"
          refine iteT ?_
          refine go_errRF ?_
          walk_at "rd"
          refine ⟨xe, CS, dd, _, .int i, rfl, FldR.of T_InvalidSyntax, er3, rfl, ?_⟩
          refine go_repr (.int _) hi (by decide) (by decide) ?_
          exact fin _ eC
end
end Kx

set_option Elab.async false
set_option linter.all false
set_option maxRecDepth 100000
set_option maxHeartbeats 4000000

namespace Kx
open PySem PySem.Spec PyProof.Rows L2 HX TL
open Evl (Ex)
local macro_rules | `(tactic| walk_at "len") => `(tactic| first | assumption | exact le_line (by assumption) | exact le_line (by omega) | exact le_line (Nat.le_trans (cutS_length _ _ _) (by omega)) | (rw [sizeLine_eq]; omega))
local macro_rules | `(tactic| walk_at "side") => `(tactic| first | assumption | ((try dsimp only); first | assumption | decide +kernel | omega | exact ⟨by decide, by decide⟩ | (left; decide) | (left; omega) | (refine Or.inl ⟨?_, ?_⟩ <;> omega) | (refine Or.inr ⟨?_, ?_⟩ <;> omega)))
local macro_rules | `(tactic| walk_at "heap") => `(tactic| first | assumption | exact upd_same | exact Or.inl (by assumption) | exact Or.inl upd_same)
local macro_rules | `(tactic| walk_at "item") => `(tactic| first | exact rfl | exact atI_nat (j := 0) rfl | exact atI_nat (j := 1) rfl | exact atI_nat (j := 2) rfl | assumption)
local macro_rules | `(tactic| walk_at "rd") => `(tactic| repeat (first
  | ((with_reducible refine' go_var ?hv ?_); (case hv => exact rfl))
  | with_reducible refine' go_c ?_
  | with_reducible refine' go_op ?_
  | with_reducible refine' go_seq ?_
  | with_reducible refine' go_asg ?_
  | with_reducible refine' go_name ?_
  | with_reducible refine' go_cons ?_
  | with_reducible refine' go_nil ?_
  | with_reducible refine' go_cb ?_
  | with_reducible refine' go_call ?_
  | with_reducible refine' go_ifS ?_
  | with_reducible refine' go_test ?_
  | with_reducible refine' go_bl ?_
  | with_reducible refine' go_ret ?_
  | with_reducible refine' go_I0 ?_
  | ((with_reducible refine' go_I ?cc ?_); (case cc => walk_at "side"))
  | ((with_reducible refine' go_ixL ?hh ?hk ?_); (case hh => walk_at "heap"); (case hk => walk_at "item"))
  | ((with_reducible refine' go_ixT ?hh ?hk ?_); (case hh => walk_at "heap"); (case hk => walk_at "item"))
  | ((with_reducible refine' go_lenL ?hh ?_); (case hh => walk_at "heap"))
  | ((with_reducible refine' go_lenT ?hh ?_); (case hh => walk_at "heap"))
  | ((with_reducible refine' go_setL ?hh ?hk ?_); (case hh => walk_at "heap"); (case hk => walk_at "item"))
  | with_reducible refine' go_abs ?_
  | with_reducible refine' go_max ?_
  | with_reducible refine' go_min ?_
  | with_reducible refine' go_int ?_
  | with_reducible refine' go_intB ?_
  | (with_reducible refine' go_eq rfl ?_)
  | (with_reducible refine' go_ne rfl ?_)
  | with_reducible refine' go_isN ?_
  | with_reducible refine' go_notN ?_
  | with_reducible refine' go_if ?_
  | with_reducible refine' go_sub ?_
  | with_reducible refine' go_par ?_
  | with_reducible refine' go_sl ?_
  | with_reducible refine' go_part ?_
  | with_reducible refine' go_pint ?_
  | with_reducible refine' go_nopart ?_
  | ((with_reducible refine' go_lenL ?hh ?_); (case hh => walk_at "heap"))
  | ((with_reducible refine' go_lenT ?hh ?_); (case hh => walk_at "heap"))
  | ((with_reducible refine' go_lenS ?hh ?_); (case hh => assumption))
  | with_reducible refine' go_gcons ?_
  | with_reducible refine' go_gnil ?_
  | with_reducible refine' go_kw ?_
  | with_reducible refine' go_par2 ?_
  | with_reducible refine' go_next ?_
  | with_reducible refine' go_drop ?_
  | with_reducible refine' go_and ?_
  | with_reducible refine' go_or ?_
  | with_reducible refine' go_not ?_
  | with_reducible refine' go_B ?_
  | with_reducible refine' go_andV ?_
  | with_reducible refine' go_orV ?_
  | with_reducible refine' go_notV ?_
  | with_reducible refine' go_chain ?_
  | with_reducible refine' go_un ?_
  | with_reducible refine' go_U ?_
  | with_reducible refine' go_bm ?_
  | with_reducible refine' go_tup ?_
  | with_reducible refine' go_lst ?_
  | with_reducible refine' go_forR1 ?_
  | with_reducible refine' go_forR2 ?_
  | with_reducible refine' go_forL ?_
  | with_reducible refine' go_forT ?_
  | with_reducible refine' go_forE ?_
  | with_reducible refine' go_lcR1 ?_
  | with_reducible refine' go_lcL ?_
  | with_reducible refine' go_lcT ?_
  | ((with_reducible refine' go_tyL ?hh ?_); (case hh => walk_at "heap"))
  | ((with_reducible refine' go_new ?hz ?_); (case hz => exact Nat.le_of_ble_eq_true rfl))
  | with_reducible refine' go_par3 ?_
  | with_reducible refine' go_three ?_
  | with_reducible refine' go_m1 ?_
  | with_reducible refine' go_isS ?_
  | with_reducible refine' go_rSw ?_
  | with_reducible refine' go_rFnd ?_
  | ((with_reducible refine' go_rPrt (by decide +kernel) ?hz ?_); (case hz => walk_at "len"))
  | ((with_reducible refine' go_rSpl (by decide +kernel) ?hz ?_); (case hz => walk_at "len"))
  | ((with_reducible refine' go_rLenS ?hz ?_); (case hz => walk_at "len"))
  | ((with_reducible refine' go_slS ?hz ?_); (case hz => walk_at "len"))
  | with_reducible refine' go_sgn ?_
  | with_reducible refine' go_nsg ?_
  | with_reducible refine' go_lcS ?_
  | (with_reducible refine' ⟨_, rfl, ?_⟩)
  ))
--MACEND
theorem Jx.mut {S : List Addr} {H G : Hp} {l : Addr} {o : HO} (x : Jx S H G) (hl : H l = none) : Jx S H (upd G l o) := fun b u e => by
  obtain ⟨h1, h2⟩ := hid_some e
  have := x b u e
  have hb : b ≠ l := fun z => by rw [z, hl] at h2; cases h2
  rw [hid_ne h1, upd_ne hb]
  exact (hid_some this).2
theorem Tps.jx {S : List Addr} {H G : Hp} (x : Jx S H G) (hS : ∀ s ∈ S, ∃ c, H s = some (.lst c)) : ∀ {xs ts}, Tps H xs ts → Tps G xs ts
  | _, _, .nil => .nil
  | _, _, .cons h t => .cons (x.get h fun z => by obtain ⟨c, hc⟩ := hS _ z; rw [h] at hc; cases hc) (t.jx x hS)
/-- a new list of tuples that grows while a tank is drawn from -/
structure Grw (j : Addr) (H : Hp) (l : Addr) (vs : List V) (ts : List (List V)) (G : Hp) : Prop where
  X : Jx [j] H G
  new : H l = none
  lj : l ≠ j
  at_ : G l = some (.lst vs)
  T : Tps G vs ts
theorem JarAt.lst {n : Nat} {H : Hp} {j : Addr} (J : JarAt n H j) : ∀ s ∈ [j], ∃ c, H s = some (.lst c) := fun s hs => by
  obtain rfl : s = j := by simpa using hs
  obtain ⟨a, b, c, h, _⟩ := J
  exact ⟨_, h⟩
section
variable {j l p q : Addr} {H G G' : Hp} {vs : List V} {ts : List (List V)} {n : Nat} {o : HO}
theorem Grw.pick (g : Grw j H l vs ts G) (J : JarAt n G j) (y : Jx [j] G G') : Grw j H l vs ts G' :=
  ⟨g.X.tr y, g.new, g.lj, y.get g.at_ (nin1 g.lj), g.T.jx y J.lst⟩
theorem Grw.lay (g : Grw j H l vs ts G) (hp : G p = none) : Grw j H l vs ts (upd G p o) :=
  ⟨g.X.tr (Jx.new hp), g.new, g.lj, by rw [upd_ne (fresh_ne g.at_ hp).symm]; exact g.at_, g.T.ex (Ex.new hp)⟩
theorem Grw.app (g : Grw j H l vs ts G) {t : List V} (hq : G q = some (.tup t)) : Grw j H l (vs ++ [.ref q]) (ts ++ [t]) (upd G l (.lst (vs ++ [.ref q]))) :=
  ⟨Jx.mut g.X g.new, g.new, g.lj, upd_same, (g.T.snoc hq).mut g.at_⟩
theorem Grw.cat (g : Grw j H l vs ts G) (J : JarAt n G j) {t : List V} (hq : G q = some (.tup t)) (hp : G p = none) : Grw j H p (vs ++ [.ref q]) (ts ++ [t]) (upd G p (.lst (vs ++ [.ref q]))) :=
  ⟨g.X.tr (Jx.new hp), J.fresh g.X hp, fresh_ne J.obj.choose_spec hp, upd_same, (g.T.snoc hq).ex (Ex.new hp)⟩
end
theorem JarAt.lay {n : Nat} {H : Hp} {j p : Addr} {o : HO} (J : JarAt n H j) (hp : H p = none) : JarAt n (upd H p o) j := J.keep (upd_ne (fresh_ne J.obj.choose_spec hp).symm)
theorem go_parB {P : V → V → Prop} {x y : V} (h : P x y) : ∃ v w, [x, y] = [v, w] ∧ P v w := ⟨x, y, rfl, h⟩
def spSet : Sp := fun vs H Q _ => ∃ (j : Addr) (most top rates : Int) (n : Nat), vs = [.ref j, .int most, .int top, .int rates] ∧ JarAt n H j ∧ n < 2 ^ 40 ∧ 1 ≤ most ∧ most ≤ 8 ∧ 1 ≤ top ∧ top < 2 ^ 200 ∧ 1 ≤ rates ∧ rates < 2 ^ 200 ∧
  ∀ (p l : Addr) (xs : List V) (ss : List Stg) (rate : Option Int) (H' : Hp), Rad (10 * top + rates + 20) ss rate → JarAt (n + 100) H' j → Jx [j] H H' → H p = none → H l = none → p ≠ l → p ≠ j → l ≠ j →
    H' p = some (.tup [.ref l, optV rate]) → H' l = some (.lst xs) → Tps H' xs (ss.map Stg.vals) → Q (.ref p) H'
section
variable {P : Program} {w : World} {K : PySem.W.Frag} {mg : Str → Option Value} {base : Heap}
end
end Kx

set_option Elab.async false
set_option linter.all false
set_option maxRecDepth 100000
set_option maxHeartbeats 2000000
namespace Kx
open PySem PySem.Spec PyProof.Rows L2 HX TL
/-! ### numbers as texts -/
def intL (i : Int) : List Nat := if i < 0 then 45 :: numL i.natAbs else numL i.natAbs
theorem tl_int (i : Int) : tl (Str.ofString (toString i)) = intL i := by
  unfold intL
  by_cases h : i < 0
  · rw [if_pos h, tl_ofString, Int.toString_eq_repr, Int.repr_eq_if, if_neg (by omega), String.toList_append, List.map_append]
    have e : (("-" : String).toList.map Char.toNat) = [45] := by decide
    rw [e]
    have t := tl_num i.natAbs
    rw [tl_ofString, Int.toString_eq_repr, Int.repr_eq_if, if_pos (by omega)] at t
    have q : ((i.natAbs : Nat) : Int).toNat = (-i).toNat := by omega
    rw [q] at t
    rw [t]; rfl
  · rw [if_neg h]
    have t := tl_num i.natAbs
    have q : ((i.natAbs : Nat) : Int) = i := by omega
    rw [q] at t
    exact t
theorem intL_len {i : Int} {k : Nat} (hk : 0 < k) (h : i.natAbs < 10 ^ k) : (intL i).length ≤ k + 1 := by
  have := numL_len hk h
  unfold intL
  split
  · simp; omega
  · omega
theorem int_len {i : Int} {k : Nat} (hk : 0 < k) (h : i.natAbs < 10 ^ k) : (Str.ofString (toString i)).length ≤ k + 1 := by
  rw [len_tl, tl_int]
  exact intL_len hk h
theorem len_app (a b : Str) : (a ++ b).length = a.length + b.length := by
  rw [len_tl, len_tl a, len_tl b, tl_append, List.length_append]
theorem log_small {i : Int} (h : i.natAbs < 2 ^ 1900) : i.natAbs.log2 < 1920 := by
  by_cases z : i.natAbs = 0
  · rw [z]; decide
  · exact (Nat.log2_lt z).mpr (Nat.lt_trans h (by decide +kernel))
/-- the words of stages and looks -/
@[reducible] def nS (i : Int) : Str := Str.ofString (toString i)
def stgS : Stg → Str
  | .mix lo => Str.ofString "m" ++ nS lo
  | .dial a => Str.ofString "d" ++ nS a
  | .pass a b => Str.ofString "p" ++ nS a ++ Str.ofString ".." ++ nS b
def rateS : Option Int → List Str
  | none => []
  | some r => [Str.ofString "/" ++ nS r]
def setS (ss : List Stg) (rate : Option Int) : Str := Txt.join (Str.ofString " ") (ss.map stgS ++ rateS rate)
def lkS (l : Lk) : Str := nS l.dial ++ Str.ofString "=" ++ (match l.band with
  | none => Str.ofString "-"
  | some b => nS b.1 ++ Str.ofString ".." ++ nS b.2)
def looksS (ls : List Lk) : Str := Txt.join (Str.ofString " ") (ls.map lkS)
def Small (k : Nat) (i : Int) : Prop := i.natAbs < 10 ^ k
def Stg.small (k : Nat) : Stg → Prop
  | .mix lo => Small k lo
  | .dial a => Small k a
  | .pass a b => Small k a ∧ Small k b
def Lk.small (k : Nat) (l : Lk) : Prop := Small k l.dial ∧ ∀ b, l.band = some b → Small k b.1 ∧ Small k b.2
theorem one_len : (Str.ofString "m").length = 1 ∧ (Str.ofString "d").length = 1 ∧ (Str.ofString "p").length = 1 ∧ (Str.ofString "..").length = 2 ∧ (Str.ofString "/").length = 1 ∧ (Str.ofString " ").length = 1 ∧ (Str.ofString "=").length = 1 ∧ (Str.ofString "-").length = 1 := by decide +kernel
theorem small_len {k : Nat} (hk : 0 < k) {i : Int} (h : Small k i) : (nS i).length ≤ k + 1 := int_len hk h
theorem stgS_len {k : Nat} (hk : 0 < k) {s : Stg} (h : s.small k) : (stgS s).length ≤ 2 * k + 5 := by
  obtain ⟨h1, h2, h3, h4, _⟩ := one_len
  cases s with
  | mix lo => have := small_len hk h; rw [stgS, len_app]; omega
  | dial lo => have := small_len hk h; rw [stgS, len_app]; omega
  | pass a b =>
    have q1 := small_len hk h.1
    have q2 := small_len hk h.2
    rw [stgS, len_app, len_app, len_app]
    omega
theorem lkS_len {k : Nat} (hk : 0 < k) {l : Lk} (h : l.small k) : (lkS l).length ≤ 3 * k + 6 := by
  obtain ⟨h1, h2, h3, h4, h5, h6, h7, h8⟩ := one_len
  have q0 := small_len hk h.1
  obtain ⟨d, b⟩ := l
  cases b with
  | none => unfold lkS; dsimp only at *; rw [len_app, len_app]; omega
  | some b =>
    have q1 := small_len hk (h.2 b rfl).1
    have q2 := small_len hk (h.2 b rfl).2
    unfold lkS
    dsimp only at q0 q1 q2 ⊢
    simp only [len_app]
    omega
theorem joinL_len (S : List Nat) : ∀ l : List (List Nat), (joinL S l).length ≤ (l.map List.length).sum + l.length * S.length
  | [] => by simp [joinL]
  | [p] => by simp [joinL]
  | p :: q :: r => by
    have := joinL_len S (q :: r)
    rw [joinL]
    simp only [List.length_append, List.map_cons, List.sum_cons, List.length_cons] at this ⊢
    simp only [Nat.add_mul, Nat.one_mul] at this ⊢
    omega
theorem join_len (y : Str) (l : List Str) : (Txt.join y l).length ≤ (l.map (·.length)).sum + l.length * y.length := by
  rw [join_eq, len_tl, tl_join]
  have := joinL_len (tl y) (l.map tl)
  rw [List.map_map, List.length_map] at this
  rw [len_tl y]
  have e : (l.map (·.length)) = (l.map (List.length ∘ tl)) := List.map_congr_left fun x _ => len_tl x
  rw [e]
  exact this
theorem sum_le {l : List Str} {m : Nat} (h : ∀ x ∈ l, x.length ≤ m) : (l.map (·.length)).sum ≤ l.length * m := by
  induction l with
  | nil => simp
  | cons a l ih =>
    have h1 := h a List.mem_cons_self
    have h2 := ih fun x hx => h x (List.mem_cons_of_mem _ hx)
    simp only [List.map_cons, List.sum_cons, List.length_cons, Nat.add_mul, Nat.one_mul]
    omega
theorem setS_len {k : Nat} (hk : 0 < k) {ss : List Stg} {rate : Option Int} (h8 : ss.length ≤ 8) (hs : ∀ s ∈ ss, s.small k) (hr : ∀ r, rate = some r → Small k r) :
    (∀ x ∈ ss.map stgS ++ rateS rate, x.length ≤ 2 * k + 5) ∧ (ss.map stgS ++ rateS rate).length ≤ 9 := by
  obtain ⟨h1, h2, h3, h4, h5, h6, h7, _⟩ := one_len
  refine ⟨fun x hx => ?_, ?_⟩
  · rcases List.mem_append.mp hx with hx | hx
    · obtain ⟨s, hs', rfl⟩ := List.mem_map.mp hx
      exact stgS_len hk (hs s hs')
    · cases rate with
      | none => cases hx
      | some r =>
        rw [rateS, List.mem_singleton] at hx
        subst hx
        have := small_len hk (hr r rfl)
        rw [len_app]
        omega
  · cases rate <;> simp [rateS] <;> omega
end Kx

set_option Elab.async false
set_option linter.all false
set_option maxRecDepth 100000
set_option maxHeartbeats 4000000

namespace Kx
open PySem PySem.Spec PyProof.Rows L2 HX TL
open Evl (Ex)
local macro_rules | `(tactic| walk_at "len") => `(tactic| first | assumption | exact le_line (by assumption) | exact le_line (by omega) | exact le_line (Nat.le_trans (cutS_length _ _ _) (by omega)) | (rw [sizeLine_eq]; omega))
local macro_rules | `(tactic| walk_at "side") => `(tactic| first | assumption | ((try dsimp only); first | assumption | decide +kernel | omega | exact ⟨by decide, by decide⟩ | (left; decide) | (left; omega) | (refine Or.inl ⟨?_, ?_⟩ <;> omega) | (refine Or.inr ⟨?_, ?_⟩ <;> omega)))
local macro_rules | `(tactic| walk_at "heap") => `(tactic| first | assumption | exact upd_same | exact Or.inl (by assumption) | exact Or.inl upd_same)
local macro_rules | `(tactic| walk_at "item") => `(tactic| first | exact rfl | exact atI_nat (j := 0) rfl | exact atI_nat (j := 1) rfl | exact atI_nat (j := 2) rfl | assumption)
local macro_rules | `(tactic| walk_at "rd") => `(tactic| repeat (first
  | ((with_reducible refine' go_var ?hv ?_); (case hv => exact rfl))
  | with_reducible refine' go_c ?_
  | with_reducible refine' go_op ?_
  | with_reducible refine' go_seq ?_
  | with_reducible refine' go_asg ?_
  | with_reducible refine' go_name ?_
  | with_reducible refine' go_cons ?_
  | with_reducible refine' go_nil ?_
  | with_reducible refine' go_cb ?_
  | with_reducible refine' go_call ?_
  | with_reducible refine' go_ifS ?_
  | with_reducible refine' go_test ?_
  | with_reducible refine' go_bl ?_
  | with_reducible refine' go_ret ?_
  | with_reducible refine' go_I0 ?_
  | ((with_reducible refine' go_I ?cc ?_); (case cc => walk_at "side"))
  | ((with_reducible refine' go_ixL ?hh ?hk ?_); (case hh => walk_at "heap"); (case hk => walk_at "item"))
  | ((with_reducible refine' go_ixT ?hh ?hk ?_); (case hh => walk_at "heap"); (case hk => walk_at "item"))
  | ((with_reducible refine' go_lenL ?hh ?_); (case hh => walk_at "heap"))
  | ((with_reducible refine' go_lenT ?hh ?_); (case hh => walk_at "heap"))
  | ((with_reducible refine' go_setL ?hh ?hk ?_); (case hh => walk_at "heap"); (case hk => walk_at "item"))
  | with_reducible refine' go_abs ?_
  | with_reducible refine' go_max ?_
  | with_reducible refine' go_min ?_
  | with_reducible refine' go_int ?_
  | with_reducible refine' go_intB ?_
  | (with_reducible refine' go_eq rfl ?_)
  | (with_reducible refine' go_ne rfl ?_)
  | with_reducible refine' go_isN ?_
  | with_reducible refine' go_notN ?_
  | with_reducible refine' go_if ?_
  | with_reducible refine' go_sub ?_
  | with_reducible refine' go_par ?_
  | with_reducible refine' go_sl ?_
  | with_reducible refine' go_part ?_
  | with_reducible refine' go_pint ?_
  | with_reducible refine' go_nopart ?_
  | ((with_reducible refine' go_lenL ?hh ?_); (case hh => walk_at "heap"))
  | ((with_reducible refine' go_lenT ?hh ?_); (case hh => walk_at "heap"))
  | ((with_reducible refine' go_lenS ?hh ?_); (case hh => assumption))
  | with_reducible refine' go_gcons ?_
  | with_reducible refine' go_gnil ?_
  | with_reducible refine' go_kw ?_
  | with_reducible refine' go_par2 ?_
  | with_reducible refine' go_next ?_
  | with_reducible refine' go_drop ?_
  | with_reducible refine' go_and ?_
  | with_reducible refine' go_or ?_
  | with_reducible refine' go_not ?_
  | with_reducible refine' go_B ?_
  | with_reducible refine' go_andV ?_
  | with_reducible refine' go_orV ?_
  | with_reducible refine' go_notV ?_
  | with_reducible refine' go_chain ?_
  | with_reducible refine' go_un ?_
  | with_reducible refine' go_U ?_
  | with_reducible refine' go_bm ?_
  | with_reducible refine' go_tup ?_
  | with_reducible refine' go_lst ?_
  | with_reducible refine' go_forR1 ?_
  | with_reducible refine' go_forR2 ?_
  | with_reducible refine' go_forL ?_
  | with_reducible refine' go_forT ?_
  | with_reducible refine' go_forE ?_
  | with_reducible refine' go_lcR1 ?_
  | with_reducible refine' go_lcL ?_
  | with_reducible refine' go_lcT ?_
  | ((with_reducible refine' go_tyL ?hh ?_); (case hh => walk_at "heap"))
  | ((with_reducible refine' go_new ?hz ?_); (case hz => exact Nat.le_of_ble_eq_true rfl))
  | with_reducible refine' go_par3 ?_
  | with_reducible refine' go_three ?_
  | with_reducible refine' go_m1 ?_
  | with_reducible refine' go_isS ?_
  | with_reducible refine' go_rSw ?_
  | with_reducible refine' go_rFnd ?_
  | ((with_reducible refine' go_rPrt (by decide +kernel) ?hz ?_); (case hz => walk_at "len"))
  | ((with_reducible refine' go_rSpl (by decide +kernel) ?hz ?_); (case hz => walk_at "len"))
  | ((with_reducible refine' go_rLenS ?hz ?_); (case hz => walk_at "len"))
  | ((with_reducible refine' go_slS ?hz ?_); (case hz => walk_at "len"))
  | with_reducible refine' go_sgn ?_
  | with_reducible refine' go_nsg ?_
  | with_reducible refine' go_lcS ?_
  | (with_reducible refine' ⟨_, rfl, ?_⟩)
  ))
--MACEND
/-- a receiver at p: its list of tuples, its rate -/
structure RadAt (H : Hp) (p : Addr) (ss : List Stg) (rate : Option Int) : Prop where
  ex : ∃ (l : Addr) (vs : List V), H p = some (.tup [.ref l, optV rate]) ∧ H l = some (.lst vs) ∧ Tps H vs (ss.map Stg.vals)
theorem RadAt.mono {H H' : Hp} {p : Addr} {ss : List Stg} {rate : Option Int} (e : Ex H H') (h : RadAt H p ss rate) : RadAt H' p ss rate :=
  let ⟨⟨l, vs, h1, h2, h3⟩⟩ := h; ⟨⟨l, vs, e _ _ h1, e _ _ h2, h3.ex e⟩⟩
theorem RadAt.dq {H : Hp} {p : Addr} {ss : List Stg} {rate : Option Int} (h : RadAt H p ss rate) : Dq H (.ref p) (radD ss rate) := by
  obtain ⟨l, vs, h1, h2, h3⟩ := h.ex
  refine .tup (.inl h1) (.cons (.lst (.inl h2) (tps_stgs h3)) (.cons ?_ .nil))
  cases rate with
  | none => exact .non
  | some r => exact .int r
def spSetT : Sp := fun vs H Q _ => ∃ (p : Addr) (ss : List Stg) (rate : Option Int) (k : Nat), vs = [.ref p] ∧ RadAt H p ss rate ∧ ss.length ≤ 8 ∧ 0 < k ∧ k ≤ 100 ∧ (∀ s ∈ ss, s.small k) ∧ (∀ r, rate = some r → Small k r) ∧ ∀ H', Ex H H' → Q (.str (setS ss rate)) H'
def spLooksT : Sp := fun vs H Q _ => ∃ (l : Addr) (xs : List V) (ls : List Lk) (k : Nat), vs = [.ref l] ∧ H l = some (.lst xs) ∧ Tps H xs (ls.map Lk.vals) ∧ ls.length ≤ 8 ∧ 0 < k ∧ k ≤ 100 ∧ (∀ s ∈ ls, s.small k) ∧ ∀ H', Ex H H' → Q (.str (looksS ls)) H'
theorem small_log {k : Nat} {i : Int} (hk : k ≤ 100) (h : Small k i) : i.natAbs.log2 < 1920 := by
  refine log_small (Nat.lt_of_lt_of_le h (Nat.le_trans (Nat.pow_le_pow_right (by decide) hk) (by decide +kernel)))
theorem tps_at {H : Hp} {α : Type} {f : α → List V} {vs : List V} {ss : List α} {i : Nat} {v : V} (T : Tps H vs (ss.map f)) (h : vs[i]? = some v) : ∃ s a, ss[i]? = some s ∧ v = .ref a ∧ H a = some (.tup (f s)) := by
  obtain ⟨a, t, h1, h2, h3⟩ := T.get h
  rw [List.getElem?_map] at h1
  cases e : ss[i]? with
  | none => rw [e] at h1; cases h1
  | some s => rw [e] at h1; cases h1; exact ⟨s, a, rfl, h2, h3⟩
theorem go_catQ {K : PySem.W.Frag} {l m : Addr} {xs zs : List V} {H : Hp} {Q : VK} (h1 : H l = some (.lst xs)) (h2 : H m = some (.lst zs)) (hz : xs.length + zs.length ≤ sizeLine) (q : ∀ p, H p = none → Q (.ref p) (upd H p (.lst (xs ++ zs)))) : rCat (.ref l) (.ref m) H Q := go_cat h1 h2 hz q
section
variable {P : Program} {w : World} {K : PySem.W.Frag} {mg : Str → Option Value} {base : Heap}
end
end Kx

set_option Elab.async false
set_option linter.all false
set_option maxRecDepth 100000
set_option maxHeartbeats 4000000

namespace Kx
open PySem PySem.Spec PyProof.Rows L2 HX TL
open Evl (Ex)
local macro_rules | `(tactic| walk_at "len") => `(tactic| first | assumption | exact le_line (by assumption) | exact le_line (by omega) | exact le_line (Nat.le_trans (cutS_length _ _ _) (by omega)) | (rw [sizeLine_eq]; omega))
local macro_rules | `(tactic| walk_at "side") => `(tactic| first | assumption | ((try dsimp only); first | assumption | decide +kernel | omega | exact ⟨by decide, by decide⟩ | (left; decide) | (left; omega) | (refine Or.inl ⟨?_, ?_⟩ <;> omega) | (refine Or.inr ⟨?_, ?_⟩ <;> omega)))
local macro_rules | `(tactic| walk_at "heap") => `(tactic| first | assumption | exact upd_same | exact Or.inl (by assumption) | exact Or.inl upd_same)
local macro_rules | `(tactic| walk_at "item") => `(tactic| first | exact rfl | exact atI_nat (j := 0) rfl | exact atI_nat (j := 1) rfl | exact atI_nat (j := 2) rfl | assumption)
local macro_rules | `(tactic| walk_at "rd") => `(tactic| repeat (first
  | ((with_reducible refine' go_var ?hv ?_); (case hv => exact rfl))
  | with_reducible refine' go_c ?_
  | with_reducible refine' go_op ?_
  | with_reducible refine' go_seq ?_
  | with_reducible refine' go_asg ?_
  | with_reducible refine' go_name ?_
  | with_reducible refine' go_cons ?_
  | with_reducible refine' go_nil ?_
  | with_reducible refine' go_cb ?_
  | with_reducible refine' go_call ?_
  | with_reducible refine' go_ifS ?_
  | with_reducible refine' go_test ?_
  | with_reducible refine' go_bl ?_
  | with_reducible refine' go_ret ?_
  | with_reducible refine' go_I0 ?_
  | ((with_reducible refine' go_I ?cc ?_); (case cc => walk_at "side"))
  | ((with_reducible refine' go_ixL ?hh ?hk ?_); (case hh => walk_at "heap"); (case hk => walk_at "item"))
  | ((with_reducible refine' go_ixT ?hh ?hk ?_); (case hh => walk_at "heap"); (case hk => walk_at "item"))
  | ((with_reducible refine' go_lenL ?hh ?_); (case hh => walk_at "heap"))
  | ((with_reducible refine' go_lenT ?hh ?_); (case hh => walk_at "heap"))
  | ((with_reducible refine' go_setL ?hh ?hk ?_); (case hh => walk_at "heap"); (case hk => walk_at "item"))
  | with_reducible refine' go_abs ?_
  | with_reducible refine' go_max ?_
  | with_reducible refine' go_min ?_
  | with_reducible refine' go_int ?_
  | with_reducible refine' go_intB ?_
  | (with_reducible refine' go_eq rfl ?_)
  | (with_reducible refine' go_ne rfl ?_)
  | with_reducible refine' go_isN ?_
  | with_reducible refine' go_notN ?_
  | with_reducible refine' go_if ?_
  | with_reducible refine' go_sub ?_
  | with_reducible refine' go_par ?_
  | with_reducible refine' go_sl ?_
  | with_reducible refine' go_part ?_
  | with_reducible refine' go_pint ?_
  | with_reducible refine' go_nopart ?_
  | ((with_reducible refine' go_lenL ?hh ?_); (case hh => walk_at "heap"))
  | ((with_reducible refine' go_lenT ?hh ?_); (case hh => walk_at "heap"))
  | ((with_reducible refine' go_lenS ?hh ?_); (case hh => assumption))
  | with_reducible refine' go_gcons ?_
  | with_reducible refine' go_gnil ?_
  | with_reducible refine' go_kw ?_
  | with_reducible refine' go_par2 ?_
  | with_reducible refine' go_next ?_
  | with_reducible refine' go_drop ?_
  | with_reducible refine' go_and ?_
  | with_reducible refine' go_or ?_
  | with_reducible refine' go_not ?_
  | with_reducible refine' go_B ?_
  | with_reducible refine' go_andV ?_
  | with_reducible refine' go_orV ?_
  | with_reducible refine' go_notV ?_
  | with_reducible refine' go_chain ?_
  | with_reducible refine' go_un ?_
  | with_reducible refine' go_U ?_
  | with_reducible refine' go_bm ?_
  | with_reducible refine' go_tup ?_
  | with_reducible refine' go_lst ?_
  | with_reducible refine' go_forR1 ?_
  | with_reducible refine' go_forR2 ?_
  | with_reducible refine' go_forL ?_
  | with_reducible refine' go_forT ?_
  | with_reducible refine' go_forE ?_
  | with_reducible refine' go_lcR1 ?_
  | with_reducible refine' go_lcL ?_
  | with_reducible refine' go_lcT ?_
  | ((with_reducible refine' go_tyL ?hh ?_); (case hh => walk_at "heap"))
  | ((with_reducible refine' go_new ?hz ?_); (case hz => exact Nat.le_of_ble_eq_true rfl))
  | with_reducible refine' go_par3 ?_
  | with_reducible refine' go_three ?_
  | with_reducible refine' go_m1 ?_
  | with_reducible refine' go_isS ?_
  | with_reducible refine' go_rSw ?_
  | with_reducible refine' go_rFnd ?_
  | ((with_reducible refine' go_rPrt (by decide +kernel) ?hz ?_); (case hz => walk_at "len"))
  | ((with_reducible refine' go_rSpl (by decide +kernel) ?hz ?_); (case hz => walk_at "len"))
  | ((with_reducible refine' go_rLenS ?hz ?_); (case hz => walk_at "len"))
  | ((with_reducible refine' go_slS ?hz ?_); (case hz => walk_at "len"))
  | with_reducible refine' go_sgn ?_
  | with_reducible refine' go_nsg ?_
  | with_reducible refine' go_lcS ?_
  | (with_reducible refine' ⟨_, rfl, ?_⟩)
  ))
--MACEND
def spLooks : Sp := fun vs H Q _ => ∃ (j : Addr) (top : Int) (n : Nat), vs = [.ref j, .int top] ∧ JarAt n H j ∧ n < 2 ^ 40 ∧ 1 ≤ top ∧ top < 2 ^ 200 ∧
  ∀ (l : Addr) (xs : List V) (ls : List Lk) (H' : Hp), ls ≠ [] → ls.length ≤ 6 → (∀ s ∈ ls, -top ≤ s.dial ∧ s.dial ≤ top ∧ ∀ b, s.band = some b → 0 ≤ b.1 ∧ b.1 ≤ b.2 ∧ b.2 ≤ 2 * top) → JarAt (n + 100) H' j → Jx [j] H H' → H l = none → l ≠ j →
    H' l = some (.lst xs) → Tps H' xs (ls.map Lk.vals) → Q (.ref l) H'
section
variable {P : Program} {w : World} {K : PySem.W.Frag} {mg : Str → Option Value} {base : Heap}
end
end Kx

set_option Elab.async false
set_option linter.all false
set_option maxRecDepth 100000
set_option maxHeartbeats 2000000
namespace Kx
open PySem PySem.Spec PyProof.Rows L2 HX TL
/-! ### what is written is read back -/
theorem words_eq (t : Str) : words t = spl [32] 0 [] (tl t) := by
  have e : tl (Str.ofString " ") = [32] := by decide +kernel
  have := split_spl t (Str.ofString " ") (by rw [e]; simp) (kind_ok (by decide +kernel))
  rw [e] at this
  exact this
theorem numL_first (n : Nat) : ∃ c r, numL n = c :: r ∧ 48 ≤ c ∧ c ≤ 57 := by
  cases h : numL n with
  | nil => exact absurd h (numL_ne n)
  | cons c r =>
    have := numL_digits n c (by rw [h]; exact List.mem_cons_self)
    exact ⟨c, r, rfl, this⟩
theorem numL_head : ∀ (n : Nat), n ≠ 0 → (numL n).head? ≠ some 48
  | n, h0 => by
    by_cases h : n < 10
    · rw [numL_lt h]
      intro e
      have := Option.some.inj e
      omega
    · have ih := numL_head (n / 10) (by omega)
      obtain ⟨c, r, e, _⟩ := numL_first (n / 10)
      rw [numL_step (by omega), e] 
      rw [e] at ih
      exact ih
theorem neg_num (n : Nat) : neg (numL n) = false := by
  obtain ⟨c, r, e, h1, h2⟩ := numL_first n
  unfold neg
  rw [e]
  exact decide_eq_false fun z => by have := Option.some.inj z; omega
theorem neg_dash (l : List Nat) : neg (45 :: l) = true := rfl
theorem shaped_num {n : Nat} (h : n < 10 ^ 30) : shaped (numL n) = true := by
  unfold shaped
  rw [Bool.and_eq_true, decide_eq_true_eq]
  refine ⟨⟨?_, numL_len (by decide) h⟩, dig_all (numL_digits n)⟩
  have := numL_ne n
  cases e : numL n with
  | nil => exact absurd e this
  | cons c r => simp
theorem readN_num {n : Nat} (h : n < 10 ^ 30) : readN (numL n) = some (n : Int) := by
  have ed : digs (numL n) = numL n := by unfold digs; rw [neg_num]; rfl
  unfold readN
  rw [ed, shaped_num h, if_pos rfl, neg_num, if_neg, if_neg (by decide), numL_val]
  rintro ⟨e1, e2⟩
  by_cases z : n = 0
  · rw [z] at e2; exact e2 (by decide)
  · exact numL_head n z e1
theorem readN_neg {n : Nat} (h : n < 10 ^ 30) (z : n ≠ 0) : readN (45 :: numL n) = some (-(n : Int)) := by
  have ed : digs (45 :: numL n) = numL n := rfl
  unfold readN
  rw [ed, shaped_num h, if_pos rfl, neg_dash, if_neg, if_pos rfl, numL_val]
  rintro ⟨e1, e2⟩
  exact numL_head n z e1
theorem readN_int {i : Int} (h : Small 30 i) : readN (intL i) = some i := by
  unfold Small at h
  unfold intL
  split
  · rw [readN_neg h (by omega)]
    congr 1; omega
  · rw [readN_num h]
    congr 1; omega
theorem intL_nat {i : Int} (h : 0 ≤ i) : intL i = numL i.natAbs := by unfold intL; rw [if_neg (by omega)]
theorem natN_int {i : Int} (h0 : 0 ≤ i) (h : Small 30 i) : natN (intL i) = some i := by
  unfold natN
  rw [readN_int h, intL_nat h0, neg_num]
  rfl
theorem intL_free {i : Int} {s : Nat} (h : s < 45 ∨ 57 < s ∨ s = 46 ∨ s = 47) : s ∉ intL i := fun m => by
  unfold intL at m
  split at m
  · rcases List.mem_cons.mp m with e | m
    · omega
    · have := numL_digits _ s m; omega
  · have := numL_digits _ s m; omega
theorem bandN_int {a b : Int} (h0 : 0 ≤ a) (h1 : a ≤ b) (ha : Small 30 a) (hb : Small 30 b) : bandN (intL a ++ ([46, 46] ++ intL b)) = some (a, b) := by
  unfold bandN
  have := par_part1 (s := 46) (S := [46]) (p := intL a) (rest := intL b) (acc := []) (intL_free (.inr (.inr (.inl rfl))))
  rw [show intL a ++ ([46, 46] ++ intL b) = intL a ++ (46 :: [46] ++ intL b) from rfl, this]
  dsimp only
  rw [List.nil_append, natN_int h0 ha, natN_int (Int.le_trans h0 h1) hb]
  dsimp only
  rw [if_pos h1]
theorem tl_m : tl (Str.ofString "m") = [109] ∧ tl (Str.ofString "d") = [100] ∧ tl (Str.ofString "p") = [112] ∧ tl (Str.ofString "..") = [46, 46] ∧ tl (Str.ofString "/") = [47] ∧ tl (Str.ofString "=") = [61] ∧ tl (Str.ofString "-") = [45] ∧ tl (Str.ofString " ") = [32] := by decide +kernel
/-- stages whose words are read back -/
def Stg.fit : Stg → Prop
  | .mix lo => 0 ≤ lo ∧ Small 30 lo
  | .dial a => Small 30 a
  | .pass a b => 0 ≤ a ∧ a ≤ b ∧ Small 30 a ∧ Small 30 b
def Lk.fit (l : Lk) : Prop := Small 30 l.dial ∧ ∀ b, l.band = some b → 0 ≤ b.1 ∧ b.1 ≤ b.2 ∧ Small 30 b.1 ∧ Small 30 b.2
theorem stgL (s : Stg) : tl (stgS s) = match s with
    | .mix lo => 109 :: intL lo
    | .dial a => 100 :: intL a
    | .pass a b => 112 :: (intL a ++ ([46, 46] ++ intL b)) := by
  obtain ⟨h1, h2, h3, h4, _⟩ := tl_m
  cases s with
  | mix lo => rw [stgS, tl_append, tl_int, h1]; rfl
  | dial lo => rw [stgS, tl_append, tl_int, h2]; rfl
  | pass a b => rw [stgS, tl_append, tl_append, tl_append, tl_int, tl_int, h3, h4]; simp
theorem stgN_back {s : Stg} (h : s.fit) : stgN (tl (stgS s)) = some s := by
  rw [stgL]
  cases s with
  | mix lo =>
    show (natN (intL lo)).map Stg.mix = _
    rw [natN_int h.1 h.2]; rfl
  | dial a =>
    show (readN (intL a)).map Stg.dial = _
    rw [readN_int h]; rfl
  | pass a b =>
    show (bandN (intL a ++ ([46, 46] ++ intL b))).map (fun b => Stg.pass b.1 b.2) = _
    rw [bandN_int h.1 h.2.1 h.2.2.1 h.2.2.2]; rfl
theorem stg_free {s : Stg} : 32 ∉ tl (stgS s) := fun m => by
  rw [stgL] at m
  have f : ∀ i : Int, 32 ∉ intL i := fun i => intL_free (.inl (by decide))
  cases s with
  | mix lo => rcases List.mem_cons.mp m with e | m; (· cases e); exact f _ m
  | dial lo => rcases List.mem_cons.mp m with e | m; (· cases e); exact f _ m
  | pass a b =>
    rcases List.mem_cons.mp m with e | m
    · cases e
    · rcases List.mem_append.mp m with m | m
      · exact f _ m
      · rcases List.mem_append.mp m with m | m
        · simp at m
        · exact f _ m
theorem rateL (r : Int) : tl (Str.ofString "/" ++ nS r) = 47 :: intL r := by
  rw [tl_append, tl_int, tl_m.2.2.2.2.1]; rfl
theorem rateN_back {r : Int} (h2 : 2 ≤ r) (h : Small 30 r) : rateN (47 :: intL r) = some r := by
  unfold rateN
  show ge2 (natN (intL r)) = _
  rw [natN_int (by omega) h]
  unfold ge2
  dsimp only
  rw [if_pos h2]
theorem rate_free {r : Int} : 32 ∉ 47 :: intL r := fun m => by
  rcases List.mem_cons.mp m with e | m
  · cases e
  · exact intL_free (.inl (by decide)) m
theorem lkL (l : Lk) : tl (lkS l) = intL l.dial ++ ([61] ++ match l.band with
    | none => [45]
    | some b => intL b.1 ++ ([46, 46] ++ intL b.2)) := by
  obtain ⟨h1, h2, h3, h4, h5, h6, h7, h8⟩ := tl_m
  obtain ⟨d, b⟩ := l
  cases b with
  | none => unfold lkS; dsimp only; rw [tl_append, tl_append, tl_int, h6, h7]; simp
  | some b => unfold lkS; dsimp only; rw [tl_append, tl_append, tl_append, tl_append, tl_int, tl_int, tl_int, h6, h4]; simp
theorem band_dash {a : Int} {r : List Nat} (h0 : 0 ≤ a) : intL a ++ ([46, 46] ++ r) ≠ [45] := fun e => by
  have : (intL a ++ ([46, 46] ++ r)).length = 1 := by rw [e]; rfl
  simp at this
  omega
theorem lookN_back {l : Lk} (h : l.fit) : lookN (tl (lkS l)) = some l := by
  rw [lkL]
  obtain ⟨d, b⟩ := l
  have hc : ∀ r, cutEq (intL d ++ ([61] ++ r)) = (intL d, r) := fun r => by
    unfold cutEq
    have := par_part1 (s := 61) (S := []) (p := intL d) (rest := r) (acc := []) (intL_free (.inr (.inl (by decide))))
    rw [show intL d ++ ([61] ++ r) = intL d ++ (61 :: [] ++ r) from rfl, this]
    rfl
  unfold lookN
  dsimp only
  rw [hc, readN_int h.1]
  dsimp only
  cases b with
  | none => rw [if_pos rfl]
  | some b =>
    obtain ⟨q1, q2, q3, q4⟩ := h.2 b rfl
    dsimp only
    rw [if_neg (band_dash q1), bandN_int q1 q2 q3 q4]
    rfl
theorem lk_free {l : Lk} : 32 ∉ tl (lkS l) := fun m => by
  rw [lkL] at m
  have f : ∀ i : Int, 32 ∉ intL i := fun i => intL_free (.inl (by decide))
  obtain ⟨d, b⟩ := l
  cases b with
  | none =>
    rcases List.mem_append.mp m with m | m
    · exact f _ m
    · simp at m
  | some b =>
    rcases List.mem_append.mp m with m | m
    · exact f _ m
    · rcases List.mem_append.mp m with m | m
      · simp at m
      · rcases List.mem_append.mp m with m | m
        · exact f _ m
        · rcases List.mem_append.mp m with m | m
          · simp at m
          · exact f _ m
theorem dials_cat (a b : List Stg) : dials (a ++ b) = dials a + dials b := by simp [dials]
theorem parR_back : ∀ (ss pr : List Stg) (i : Nat) (rest : List (List Nat)), (∀ s ∈ ss, s.fit) → dials (pr ++ ss) ≤ 1 → (pr ++ ss).length ≤ 8 →
    parR (ss.map (fun s => tl (stgS s)) ++ rest) i pr none = parR rest (i + ss.length) (pr ++ ss) none
  | [], pr, i, rest, _, _, _ => by simp
  | s :: ss, pr, i, rest, hf, hd, hl => by
    have hm : mayF pr s = true := by
      unfold mayF
      rw [List.length_append, List.length_cons] at hl
      rw [Bool.and_eq_true, decide_eq_true_eq, Bool.or_eq_true, decide_eq_true_eq]
      refine ⟨by omega, ?_⟩
      cases q : s.isDial with
      | false => exact .inl rfl
      | true =>
        refine .inr ?_
        rw [dials_cat] at hd
        have : 1 ≤ dials (s :: ss) := by unfold dials; rw [List.filter_cons, q, if_pos rfl]; simp
        omega
    have ih := parR_back ss (pr ++ [s]) (i + 1) rest (fun x hx => hf x (List.mem_cons_of_mem _ hx)) (by simpa using hd) (by simpa using hl)
    rw [List.map_cons, List.cons_append, parR, stgN_back (hf s List.mem_cons_self)]
    rw [show (some s).filter (mayF pr) = some s from by simp [Option.filter, hm]]
    dsimp only
    rw [ih]
    simp only [List.append_assoc, List.singleton_append, List.length_cons]
    rw [show i + 1 + ss.length = i + (ss.length + 1) from by omega]
theorem parL_back : ∀ (ls pr : List Lk) (i : Nat), (∀ l ∈ ls, l.fit) → (pr ++ ls).length ≤ 6 → parL (ls.map fun l => tl (lkS l)) i pr = .ok (pr ++ ls)
  | [], pr, i, _, _ => by simp [parL]
  | l :: ls, pr, i, hf, hl => by
    have ih := parL_back ls (pr ++ [l]) (i + 1) (fun x hx => hf x (List.mem_cons_of_mem _ hx)) (by simpa using hl)
    rw [List.map_cons, parL, lookN_back (hf l List.mem_cons_self)]
    dsimp only
    rw [List.length_append, List.length_cons] at hl
    rw [if_neg (by omega), ih]
    simp
theorem set_back {ss : List Stg} {r : Option Int} (hne : ss ≠ []) (h8 : ss.length ≤ 8) (h1 : dials ss ≤ 1) (hf : ∀ s ∈ ss, s.fit) (hr : ∀ x, r = some x → 2 ≤ x ∧ Small 30 x) : parR (words (setS ss r)) 0 [] none = .ok (ss, r) := by
  have e : words (setS ss r) = ss.map (fun s => tl (stgS s)) ++ (rateS r).map tl := by
    rw [words_eq, setS, join_eq, tl_join, tl_m.2.2.2.2.2.2.2, spl_join]
    · rw [List.map_append, List.map_map]; rfl
    · intro z
      have := congrArg List.length z
      simp at this
      exact hne this.1
    · intro p hp
      obtain ⟨y, hy, rfl⟩ := List.mem_map.mp hp
      rcases List.mem_append.mp hy with hy | hy
      · obtain ⟨s, _, rfl⟩ := List.mem_map.mp hy
        exact stg_free
      · cases r with
        | none => cases hy
        | some r =>
          rw [rateS, List.mem_singleton] at hy
          rw [hy, rateL]
          exact rate_free
  rw [e, parR_back ss [] 0 _ hf (by simpa using h1) (by simpa using h8)]
  rw [List.nil_append]
  cases r with
  | none => simp [rateS, parR]
  | some r =>
    obtain ⟨h2, hs⟩ := hr r rfl
    rw [rateS, List.map_cons, List.map_nil, rateL, parR]
    rw [show (stgN (47 :: intL r)).filter (mayF ss) = none from rfl]
    dsimp only
    rw [if_neg hne, rateN_back h2 hs]
    simp [parR]
theorem looks_back {ls : List Lk} (hne : ls ≠ []) (h6 : ls.length ≤ 6) (hf : ∀ l ∈ ls, l.fit) : parL (words (looksS ls)) 0 [] = .ok ls := by
  have e : words (looksS ls) = ls.map fun l => tl (lkS l) := by
    rw [words_eq, looksS, join_eq, tl_join, tl_m.2.2.2.2.2.2.2, spl_join]
    · rw [List.map_map]; rfl
    · intro z
      have := congrArg List.length z
      simp at this
      exact hne this
    · intro p hp
      obtain ⟨y, hy, rfl⟩ := List.mem_map.mp hp
      obtain ⟨s, _, rfl⟩ := List.mem_map.mp hy
      exact lk_free
  rw [e, parL_back ls [] 0 hf (by simpa using h6)]
  simp
theorem Stg.fit.small {s : Stg} (h : s.fit) : s.small 30 := by
  cases s with
  | mix lo => exact h.2
  | dial a => exact h
  | pass a b => exact h.2.2
theorem Lk.fit.small {l : Lk} (h : l.fit) : l.small 30 := ⟨h.1, fun b e => (h.2 b e).2.2⟩
end Kx

set_option Elab.async false
set_option linter.all false
set_option maxRecDepth 100000
set_option maxHeartbeats 2000000
namespace Kx
open PySem PySem.Spec PyProof.Rows L2 HX TL
open Evl (Ex)
theorem sp32 : tl (Str.ofString " ") = [32] := tl_m.2.2.2.2.2.2.2
theorem joinL_cons (S p : List Nat) {l : List (List Nat)} (h : l ≠ []) : joinL S (p :: l) = p ++ S ++ joinL S l := by
  cases l with
  | nil => exact absurd rfl h
  | cons q r => simp [joinL]
theorem join_sp (d : List Nat) (m : List Nat) : ∀ ps : List (List Nat), joinL [32] (ps ++ [d ++ [32], m]) = joinL [32] (ps ++ [d, [], m])
  | [] => by simp [joinL]
  | p :: ps => by
    rw [List.cons_append, List.cons_append, joinL_cons _ _ (by simp), joinL_cons _ _ (by simp), join_sp d m ps]
theorem words_join {parts : List Str} (hne : parts ≠ []) (hp : ∀ p ∈ parts, 32 ∉ tl p) : words (Txt.join (Str.ofString " ") parts) = parts.map tl := by
  rw [words_eq, join_eq, tl_join, sp32, spl_join (by simpa using hne) (fun p hp' => by
    obtain ⟨y, hy, rfl⟩ := List.mem_map.mp hp'
    exact hp y hy)]
theorem parR_no {w : List Nat} {ws : List (List Nat)} {i : Nat} {ss : List Stg} (h : stgN w = none) (hr : rateN w = none) : parR (w :: ws) i ss none = .error i := by
  rw [parR, h, hr]
  dsimp only [Option.filter]
  split <;> rfl
theorem parL_backR : ∀ (ls pr : List Lk) (i : Nat) (rest : List (List Nat)), (∀ l ∈ ls, l.fit) → (pr ++ ls).length ≤ 6 → parL (ls.map (fun l => tl (lkS l)) ++ rest) i pr = parL rest (i + ls.length) (pr ++ ls)
  | [], pr, i, rest, _, _ => by simp
  | l :: ls, pr, i, rest, hf, hl => by
    have ih := parL_backR ls (pr ++ [l]) (i + 1) rest (fun x hx => hf x (List.mem_cons_of_mem _ hx)) (by simpa using hl)
    rw [List.map_cons, List.cons_append, parL, lookN_back (hf l List.mem_cons_self)]
    dsimp only
    rw [List.length_append, List.length_cons] at hl
    rw [if_neg (by omega), ih]
    simp only [List.append_assoc, List.singleton_append, List.length_cons]
    rw [show i + 1 + ls.length = i + (ls.length + 1) from by omega]
def mS (v : Nat) : Str := Str.ofString "m" ++ Str.ofString (toString (v : Int))
def lS (v : Nat) : Str := Str.ofString (toString (v : Int)) ++ Str.ofString "=-"
theorem mS_stg (v : Nat) : mS v = stgS (.mix v) := rfl
theorem lS_lk (v : Nat) : lS v = lkS ⟨v, none⟩ := by
  have e : Str.ofString "=-" = Str.ofString "=" ++ Str.ofString "-" := by decide +kernel
  unfold lS
  rw [e]
  exact ext_tl (by unfold lkS; simp only [tl_append, List.append_assoc])
theorem small99 {v : Nat} (h : v < 99) : Small 30 (v : Int) := by unfold Small; omega
def badsR : List Str := [Str.ofString "", Str.ofString "m", Str.ofString "x", Str.ofString "d1 ", Str.ofString "5", Str.ofString "p2..1", Str.ofString "m-1", Str.ofString "m1\n"]
def badsL : List Str := [Str.ofString "", Str.ofString "4", Str.ofString "4=", Str.ofString "=-", Str.ofString "4=6..3", Str.ofString "4=-\n", Str.ofString "-0=-", Str.ofString "+4=-"]
theorem bads_r : ∀ b ∈ badsR, b.length ≤ 10 ∧ (tl b).all (fun c => decide (c < 1000)) = true ∧ (b = Str.ofString "d1 " ∨ (decide (32 ∈ tl b) = false ∧ stgN (tl b) = none ∧ rateN (tl b) = none ∧ decide (b = Str.ofString "d1 ") = false)) := by
  intro b hb
  unfold badsR at hb
  simp only [List.mem_cons, List.not_mem_nil, or_false] at hb
  rcases hb with rfl | rfl | rfl | rfl | rfl | rfl | rfl | rfl
  · exact ⟨by decide +kernel, by decide +kernel, .inr ⟨by decide +kernel, by decide +kernel, by decide +kernel, by decide +kernel⟩⟩
  · exact ⟨by decide +kernel, by decide +kernel, .inr ⟨by decide +kernel, by decide +kernel, by decide +kernel, by decide +kernel⟩⟩
  · exact ⟨by decide +kernel, by decide +kernel, .inr ⟨by decide +kernel, by decide +kernel, by decide +kernel, by decide +kernel⟩⟩
  · exact ⟨by decide +kernel, by decide +kernel, .inl rfl⟩
  · exact ⟨by decide +kernel, by decide +kernel, .inr ⟨by decide +kernel, by decide +kernel, by decide +kernel, by decide +kernel⟩⟩
  · exact ⟨by decide +kernel, by decide +kernel, .inr ⟨by decide +kernel, by decide +kernel, by decide +kernel, by decide +kernel⟩⟩
  · exact ⟨by decide +kernel, by decide +kernel, .inr ⟨by decide +kernel, by decide +kernel, by decide +kernel, by decide +kernel⟩⟩
  · exact ⟨by decide +kernel, by decide +kernel, .inr ⟨by decide +kernel, by decide +kernel, by decide +kernel, by decide +kernel⟩⟩
theorem bads_l : ∀ b ∈ badsL, b.length ≤ 10 ∧ (tl b).all (fun c => decide (c < 1000)) = true ∧ decide (32 ∈ tl b) = false ∧ lookN (tl b) = none := by
  intro b hb
  unfold badsL at hb
  simp only [List.mem_cons, List.not_mem_nil, or_false] at hb
  rcases hb with rfl | rfl | rfl | rfl | rfl | rfl | rfl | rfl
  all_goals exact ⟨by decide +kernel, by decide +kernel, by decide +kernel, by decide +kernel⟩
theorem m0_free : 32 ∉ tl (Str.ofString "m0") := by decide +kernel
theorem mix_fit {vs : List Nat} (hv : ∀ v ∈ vs, v < 99) : ∀ s ∈ vs.map (fun v : Nat => Stg.mix v), s.fit := fun s hs => by
  obtain ⟨v, h, rfl⟩ := List.mem_map.mp hs
  exact ⟨by omega, small99 (hv v h)⟩
theorem dials_mix : ∀ vs : List Nat, dials (vs.map fun v : Nat => Stg.mix v) = 0
  | [] => rfl
  | v :: vs => by
    have := dials_mix vs
    unfold dials at this ⊢
    rw [List.map_cons, List.filter_cons, if_neg (by simp [Stg.isDial])]
    exact this
theorem res_r {vs : List Nat} {b : Str} (h7 : vs.length ≤ 7) (hv : ∀ v ∈ vs, v < 99) (hb : b ∈ badsR) :
    resW 0 (.str (Txt.join (Str.ofString " ") (vs.map mS ++ [b, Str.ofString "m0"]))) = Str.ofString (toString ((vs.length : Int) + (if decide (V.str b = V.str (Str.ofString "d1 ")) = true then 1 else 0))) := by
  have hm : ∀ p ∈ vs.map mS, 32 ∉ tl p := fun p hp => by
    obtain ⟨v, _, rfl⟩ := List.mem_map.mp hp
    rw [mS_stg]
    exact stg_free
  have em : (vs.map mS).map tl = (vs.map fun v : Nat => Stg.mix v).map fun s => tl (stgS s) := by
    rw [List.map_map, List.map_map]; rfl
  rw [resW, if_pos rfl]
  rcases (bads_r b hb).2.2 with rfl | ⟨h1, h2, h3, h4⟩
  · rw [if_pos (decide_eq_true rfl)]
    have ew : words (Txt.join (Str.ofString " ") (vs.map mS ++ [Str.ofString "d1 ", Str.ofString "m0"])) = (vs.map mS).map tl ++ [[100, 49], [], [109, 48]] := by
      have e1 : tl (Str.ofString "d1 ") = [100, 49] ++ [32] := by decide +kernel
      have e2 : tl (Str.ofString "m0") = [109, 48] := by decide +kernel
      rw [words_eq, join_eq, tl_join, sp32, List.map_append, List.map_cons, List.map_cons, List.map_nil, e1, e2, join_sp, spl_join (by simp)]
      intro p hp
      rcases List.mem_append.mp hp with hp | hp
      · obtain ⟨y, hy, rfl⟩ := List.mem_map.mp hp
        exact hm y hy
      · simp only [List.mem_cons, List.not_mem_nil, or_false] at hp
        rcases hp with rfl | rfl | rfl <;> decide
    have e3 : ([100, 49] : List Nat) = tl (stgS (.dial 1)) := by decide +kernel
    have key := parR_back (vs.map (fun v : Nat => Stg.mix v) ++ [.dial 1]) [] 0 [[], [109, 48]] (fun s hs => by
      rcases List.mem_append.mp hs with hs | hs
      · exact mix_fit hv s hs
      · rw [List.mem_singleton.mp hs]; show Small 30 1; unfold Small; decide) (by rw [List.nil_append, dials_cat, dials_mix]; decide) (by simp; omega)
    rw [ew, em, e3]
    rw [List.map_append, List.append_assoc] at key
    have key' := key.trans (parR_no (w := []) rfl (by decide))
    have e4 : (vs.map (fun v : Nat => Stg.mix v)).map (fun s => tl (stgS s)) ++ ([tl (stgS (.dial 1)), [], [109, 48]]) = (vs.map (fun v : Nat => Stg.mix v)).map (fun s => tl (stgS s)) ++ (([Stg.dial 1].map fun s => tl (stgS s)) ++ [[], [109, 48]]) := rfl
    rw [e4, key']
    simp
  · have hne : ¬ (V.str b = V.str (Str.ofString "d1 ")) := fun z => by
      have : b = Str.ofString "d1 " := by injection z
      exact absurd this (of_decide_eq_false h4)
    rw [if_neg (by simpa using hne)]
    have ew : words (Txt.join (Str.ofString " ") (vs.map mS ++ [b, Str.ofString "m0"])) = (vs.map mS).map tl ++ [tl b, tl (Str.ofString "m0")] := by
      rw [words_join (by simp), List.map_append]
      · rfl
      · intro p hp
        rcases List.mem_append.mp hp with hp | hp
        · exact hm p hp
        · simp only [List.mem_cons, List.not_mem_nil, or_false] at hp
          rcases hp with rfl | rfl
          · exact of_decide_eq_false h1
          · exact m0_free
    have key := parR_back (vs.map (fun v : Nat => Stg.mix v)) [] 0 [tl b, tl (Str.ofString "m0")] (mix_fit hv) (by rw [List.nil_append, dials_mix]; decide) (by simp; omega)
    rw [ew, em, key, parR_no h2 h3]
    simp
theorem res_l {vs : List Nat} {b : Str} (h5 : vs.length ≤ 5) (hv : ∀ v ∈ vs, v < 99) (hb : b ∈ badsL) :
    resW 1 (.str (Txt.join (Str.ofString " ") (vs.map lS ++ [b]))) = Str.ofString (toString (vs.length : Int)) := by
  obtain ⟨_, _, h1, h2⟩ := bads_l b hb
  have hm : ∀ p ∈ vs.map lS, 32 ∉ tl p := fun p hp => by
    obtain ⟨v, _, rfl⟩ := List.mem_map.mp hp
    rw [lS_lk]
    exact lk_free
  have em : (vs.map lS).map tl = (vs.map fun v : Nat => (⟨v, none⟩ : Lk)).map fun s => tl (lkS s) := by
    rw [List.map_map, List.map_map]
    exact List.map_congr_left fun v _ => congrArg tl (lS_lk v)
  rw [resW, if_neg (by decide)]
  have ew : words (Txt.join (Str.ofString " ") (vs.map lS ++ [b])) = (vs.map lS).map tl ++ [tl b] := by
    rw [words_join (by simp), List.map_append]
    · rfl
    · intro p hp
      rcases List.mem_append.mp hp with hp | hp
      · exact hm p hp
      · rw [List.mem_singleton.mp hp]; exact of_decide_eq_false h1
  have key := parL_backR (vs.map fun v : Nat => (⟨v, none⟩ : Lk)) [] 0 [tl b] (fun l hl => by
    obtain ⟨v, h, rfl⟩ := List.mem_map.mp hl
    exact ⟨small99 (hv v h), fun b z => nomatch z⟩) (by simp; omega)
  rw [ew, em, key, parL, h2]
  simp
def Pl (w : Str) : Prop := ∀ c ∈ tl w, c < 1000
theorem pl_join {ys : List Str} (h : ∀ y ∈ ys, Pl y) : Pl (Txt.join (Str.ofString " ") ys) := by
  unfold Pl
  rw [join_eq, tl_join, show tl (Str.ofString " ") = [32] from by decide +kernel]
  induction ys with
  | nil => intro c hc; simp [joinL] at hc
  | cons a l ih =>
    cases l with
    | nil => intro c hc; exact h a List.mem_cons_self c (by simpa [joinL] using hc)
    | cons b l =>
      intro c hc
      rw [List.map_cons, List.map_cons, joinL] at hc
      rcases List.mem_append.mp hc with hc | hc
      · exact h a List.mem_cons_self c hc
      · rcases List.mem_append.mp hc with hc | hc
        · rw [List.mem_singleton.mp hc]; omega
        · exact ih (fun y hy => h y (List.mem_cons_of_mem _ hy)) c (by simpa using hc)
theorem Pl.app {a b : Str} (h : Pl a) (k : Pl b) : Pl (a ++ b) := fun c hc => by
  rw [tl_append] at hc
  rcases List.mem_append.mp hc with hc | hc
  · exact h c hc
  · exact k c hc
theorem pl_dec {s : Str} (h : (tl s).all (fun c => decide (c < 1000)) = true) : Pl s := fun c hc => of_decide_eq_true (List.all_eq_true.mp h c hc)
theorem jar_ex {n : Nat} {H H' : Hp} {j : Addr} (e : Ex H H') (h : JarAt n H j) : JarAt n H' j := by
  obtain ⟨a, b, c, h1, h2⟩ := h
  exact ⟨a, b, c, e _ _ h1, h2⟩
theorem pl_nS (i : Int) : Pl (nS i) := fun c hc => by
  rw [tl_int] at hc
  unfold intL at hc
  have hd : ∀ n : Nat, ∀ c ∈ numL n, c < 1000 := fun n c hc => by have := numL_digits n c hc; omega
  split at hc
  · rcases List.mem_cons.mp hc with rfl | hc
    · decide
    · exact hd _ _ hc
  · exact hd _ _ hc
theorem jx_hid {D : Addr} {H G : Hp} (e : Jx [D] H G) (h : H D = none) : Ex H (hid [D] G) := fun b o q => by
  have hb : b ≠ D := fun z => by rw [z, h] at q; cases q
  exact e b o (by rw [hid_ne (nin1 hb)]; exact q)
theorem Pl.fine {x : Str} {n : Nat} (h : Pl x) (hn : x.length ≤ n) : Fine n 0 (.str x) :=
  Fine.str (List.all_eq_true.mpr fun c hc => decide_eq_true (Nat.lt_trans (h c hc) (by decide))) hn
theorem mS_ok {v : Nat} (h : v < 99) : (mS v).length ≤ 40 ∧ Pl (mS v) := by
  have h1 := small_len (k := 30) (by decide) (small99 h)
  have h2 := one_len.1
  refine ⟨?_, (pl_dec (by decide +kernel)).app (pl_nS _)⟩
  show (Str.ofString "m" ++ nS v).length ≤ 40
  rw [len_app]; omega
theorem lS_ok {v : Nat} (h : v < 99) : (lS v).length ≤ 40 ∧ Pl (lS v) := by
  have h1 := small_len (k := 30) (by decide) (small99 h)
  have h2 : (Str.ofString "=-").length = 2 := by decide +kernel
  refine ⟨?_, (pl_nS _).app (pl_dec (by decide +kernel))⟩
  show (nS v ++ Str.ofString "=-").length ≤ 40
  rw [len_app]; omega
theorem join_ok {l : List Str} (h9 : l.length ≤ 9) (h : ∀ x ∈ l, x.length ≤ 40 ∧ Pl x) : (Txt.join (Str.ofString " ") l).length ≤ 400 ∧ Pl (Txt.join (Str.ofString " ") l) ∧ (l.map (·.length)).sum + l.length * (Str.ofString " ").length ≤ 16777216 := by
  have h1 := join_len (Str.ofString " ") l
  have h2 := sum_le (m := 40) fun x hx => (h x hx).1
  rw [one_len.2.2.2.2.2.1] at h1 ⊢
  refine ⟨by omega, pl_join fun y hy => (h y hy).2, by omega⟩
theorem setR_ok {vs : List Nat} {b : Str} (h7 : vs.length ≤ 7) (hv : ∀ v ∈ vs, v < 99) (hb : b ∈ badsR) : ∀ x ∈ vs.map mS ++ [b, Str.ofString "m0"], x.length ≤ 40 ∧ Pl x := fun x hx => by
  obtain ⟨b1, b2, _⟩ := bads_r b hb
  rcases List.mem_append.mp hx with hx | hx
  · obtain ⟨v, h, rfl⟩ := List.mem_map.mp hx
    exact mS_ok (hv v h)
  · simp only [List.mem_cons, List.not_mem_nil, or_false] at hx
    rcases hx with rfl | rfl
    · exact ⟨by omega, pl_dec b2⟩
    · exact ⟨by decide +kernel, pl_dec (by decide +kernel)⟩
theorem setL_ok {vs : List Nat} {b : Str} (h5 : vs.length ≤ 5) (hv : ∀ v ∈ vs, v < 99) (hb : b ∈ badsL) : ∀ x ∈ vs.map lS ++ [b], x.length ≤ 40 ∧ Pl x := fun x hx => by
  obtain ⟨b1, b2, _⟩ := bads_l b hb
  rcases List.mem_append.mp hx with hx | hx
  · obtain ⟨v, h, rfl⟩ := List.mem_map.mp hx
    exact lS_ok (hv v h)
  · rw [List.mem_singleton.mp hx]
    exact ⟨by omega, pl_dec b2⟩
end Kx

set_option Elab.async false
set_option linter.all false
set_option maxRecDepth 100000
set_option maxHeartbeats 1000000
/-! data written out: what an expression of literals (and of names that hold data) makes; C: what is known of the slots, it stays when the heap grows -/
namespace HX
open PySem PySem.Spec PyProof.Rows L2
open Evl (Ex)
def Cl (C : L2.St → Hp → Prop) : Prop := ∀ σ H H', Ex H H' → C σ H → C σ H'
def C0 : L2.St → Hp → Prop := fun _ _ => True
theorem cl0 : Cl C0 := fun _ _ _ _ _ => trivial
def tDat (C : L2.St → Hp → Prop) (d : PyData) : TE := fun σ H Q => C σ H ∧ ∀ H' v, Ex H H' → Dq H' v d → Q v H'
def tDats (C : L2.St → Hp → Prop) (ds : List PyData) : TA := fun σ H Q => C σ H ∧ ∀ H' vs, Ex H H' → DqAll H' vs ds → Q vs H'
/-- a new list -/
def tDatL (C : L2.St → Hp → Prop) (ds : List PyData) : TE := fun σ H Q => C σ H ∧ ∀ H' l xs, Ex H H' → H' l = some (.lst xs) → DqAll H' xs ds → Q (.ref l) H'
section
variable {X : Cx} {C : L2.St → Hp → Prop} {e e2 : Expr} {es : List Expr} {te : TE} {ta : TA} {d : PyData} {ds ds2 : List PyData} {pos p : Pos} {i j : Int} {k n : Nat}
theorem pe_mono {te' : TE} (h : PE X e te) (m : ∀ σ H Q, te' σ H Q → te σ H Q) : PE X e te' := ⟨fun pins s σ H Q I q => h.run pins s σ H Q I (m σ H Q q)⟩
theorem pa_mono {ta' : TA} (h : PA X es ta) (m : ∀ σ H Q, ta' σ H Q → ta σ H Q) : PA X es ta' := ⟨fun pos pins s σ H Q I q => h.run pos pins s σ H Q I (m σ H Q q)⟩
theorem dat_int : PE X (.Constant (.int i) n pos) (tDat C (.int i)) := pe_mono pe_int fun σ H Q h => h.2 H _ (Ex.refl _) (.int i)
theorem dat_non : PE X (.Constant .none n pos) (tDat C .none) := pe_mono pe_non fun σ H Q h => h.2 H _ (Ex.refl _) .non
theorem dat_bl {b : Bool} : PE X (.Constant (.bool b) n pos) (tDat C (.bool b)) := pe_mono pe_bl fun σ H Q h => h.2 H _ (Ex.refl _) (.bl b)
theorem dat_str {x : Str} : PE X (.Constant (.str x) n pos) (tDat C (.str x)) := pe_mono pe_str fun σ H Q h => h.2 H _ (Ex.refl _) (.str x)
theorem dat_neg {m : Nat} {pos2 : Pos} : PE X (.UnaryOp .USub (.Constant (.int i) m pos2) pos) (tDat C (.int (-i))) := pe_mono (pe_un un_neg pe_int) fun σ H Q h => ⟨i, rfl, h.2 H _ (Ex.refl _) (.int (-i))⟩
theorem dat_pow {m n : Nat} {pos1 pos2 : Pos} (hc : CPowW i j) : PE X (.BinOp (.Constant (.int i) m pos1) .Pow (.Constant (.int j) n pos2) pos) (tDat C (.int (i ^ j.toNat))) :=
  pe_mono (pe_op op_powW pe_int pe_int) fun σ H Q h => ⟨i, j, rfl, rfl, hc, h.2 H _ (Ex.refl _) (.int _)⟩
theorem dat_sub0 {m n : Nat} {pos1 pos2 pos3 pos4 : Pos} {z : Int} {q : Nat} (hc : CPowW i j) : PE X (.BinOp (.Constant (.int z) q pos3) .Sub (.BinOp (.Constant (.int i) m pos1) .Pow (.Constant (.int j) n pos2) pos) pos4) (tDat C (.int (z - i ^ j.toNat))) :=
  pe_mono (pe_op op_sub pe_int (pe_op op_powW pe_int pe_int)) fun σ H Q h => ⟨i, j, rfl, rfl, hc, z, _, rfl, rfl, h.2 H _ (Ex.refl _) (.int _)⟩
theorem dat_dic : PE X (.Dict [] [] pos) (tDat C (.dict [])) := pe_mono pe_dnewK fun σ H Q h p hp => h.2 _ _ (Ex.new hp) (.dic upd_same)
theorem dat_dic1 {x : Str} {m n : Nat} {pos1 pos2 : Pos} : PE X (.Dict [some (.Constant (.str x) m pos1)] [.Constant (.int i) n pos2] pos) (tDat C (.dict [(.str x, .int i)])) :=
  pe_mono (pe_disp (pps_cons pe_str pe_int pps_nil) rfl rfl (by simp) (by simp)) fun σ H Q h p hp => ⟨upd_same, [(.inr x, .int i)], rfl, by simp, h.2 _ _ (by rw [upd_upd]; exact Ex.new hp) (.dic1 upd_same)⟩
theorem dat_nil : PA X [] (tDats C []) := pa_mono pa_nil fun σ H Q h => h.2 H [] (Ex.refl _) .nil
theorem dat_cons (hC : Cl C) (he : PE X e (tDat C d)) (hr : PA X es (tDats C ds)) (hs : starEach (e :: es) X.env = (false, eval e X.env) :: starEach es X.env := by rfl) : PA X (e :: es) (tDats C (d :: ds)) :=
  pa_mono (pa_cons he hr hs) fun σ H Q h => ⟨h.1, fun H1 v e1 q1 => ⟨hC σ _ _ e1 h.1, fun H2 vs e2 q2 => h.2 H2 _ (e1.trans e2) (.cons (q1.ex e2) q2)⟩⟩
theorem len_line (h : n ≤ 1000) : n ≤ sizeLine := Nat.le_trans h (by rw [sizeLine_eq]; decide)
theorem dat_tup {x1 : Nat} (h : PA X es (tDats C ds)) (hz : ds.length ≤ sizeLine) : PE X (.Tuple es x1 pos) (tDat C (.tuple ds)) :=
  pe_mono (pe_tup h) fun σ H Q q => ⟨q.1, fun H1 vs e1 q1 => ⟨by rw [q1.len]; exact hz, fun p hp => q.2 _ _ (e1.trans (Ex.new hp)) (.tup (.inl upd_same) (q1.ex (Ex.new hp)))⟩⟩
theorem lst_lit (h : PA X es (tDats C ds)) (hz : ds.length ≤ sizeLine) : PE X (.List es pos) (tDatL C ds) :=
  pe_mono (pe_lst h) fun σ H Q q => ⟨q.1, fun H1 vs e1 q1 => ⟨by rw [q1.len]; exact hz, fun p hp => q.2 _ _ _ (e1.trans (Ex.new hp)) upd_same (q1.ex (Ex.new hp))⟩⟩
theorem dat_lst (h : PE X e (tDatL C ds)) : PE X e (tDat C (.list ds)) := pe_mono h fun σ H Q q => ⟨q.1, fun H1 l xs e1 q1 q2 => q.2 _ _ e1 (.lst (.inl q1) q2)⟩
theorem lst_cat (hC : Cl C) (ha : PE X e (tDatL C ds)) (hb : PE X e2 (tDatL C ds2)) (hz : ds.length + ds2.length ≤ sizeLine) : PE X (.BinOp e .Add e2 pos) (tDatL C (ds ++ ds2)) :=
  pe_mono (pe_op op_cat ha hb) fun σ H Q q => ⟨q.1, fun H1 l xs e1 q1 q2 => ⟨hC σ _ _ e1 q.1, fun H2 m ys e2 q3 q4 => ⟨l, m, xs, ys, rfl, rfl, e2 _ _ q1, q3, by rw [q2.len, q4.len]; exact hz,
    fun p hp => q.2 _ _ _ ((e1.trans e2).trans (Ex.new hp)) upd_same (((q2.ex e2).app q4).ex (Ex.new hp))⟩⟩⟩
theorem dqa_rep {H : Hp} {xs : List V} (h : DqAll H xs ds) : ∀ k : Nat, DqAll H (List.replicate k xs).flatten (List.replicate k ds).flatten
  | 0 => .nil
  | k + 1 => by
    rw [List.replicate_succ, List.replicate_succ, List.flatten_cons, List.flatten_cons]
    exact h.app (dqa_rep h k)
theorem lst_rep {m : Nat} {pos2 : Pos} (hi : i = (k : Int)) (ha : PE X e (tDatL C ds)) (hk : k < 1000) (hz : ds.length * k ≤ sizeLine) : PE X (.BinOp e .Mult (.Constant (.int i) m pos2) pos) (tDatL C (List.replicate k ds).flatten) :=
  pe_mono (pe_op op_rep ha pe_int) fun σ H Q q => ⟨q.1, fun H1 l xs e1 q1 q2 => by
    subst hi
    refine ⟨l, k, xs, rfl, rfl, q1, by omega, by omega, by rw [q2.len]; simpa using hz, fun p hp => q.2 _ _ _ (e1.trans (Ex.new hp)) upd_same ?_⟩
    have e : (k : Int).toNat = k := Int.toNat_natCast k
    rw [e]
    exact (dqa_rep q2 k).ex (Ex.new hp)⟩
def cutD (ds : List PyData) (lo hi : Option Int) : List PyData := (ds.drop (HT.sIx ds.length 0 lo)).take (HT.sIx ds.length ds.length hi - HT.sIx ds.length 0 lo)
theorem dqa_cut {H : Hp} {xs : List V} (h : DqAll H xs ds) (lo hi : Option Int) : DqAll H (cutV xs lo hi) (cutD ds lo hi) := by
  unfold cutV cutD
  rw [h.len]
  exact (h.drop _).take _
theorem cutD_len (lo hi : Option Int) : (cutD ds lo hi).length ≤ ds.length := by
  unfold cutD
  rw [List.length_take, List.length_drop]
  omega
/-- a name that holds data -/
theorem dat_var {k : Nat} (h : PE X e (tVar k)) (hv : ∀ σ H, C σ H → ∃ v, σ[k]? = some (some v) ∧ Dq H v d) : PE X e (tDat C d) := pe_mono h fun σ H Q q => by
  obtain ⟨v, h1, h2⟩ := hv σ H q.1
  exact ⟨v, h1, q.2 H v (Ex.refl _) h2⟩
section
variable {lo hi : Option Expr} {tl th : TO} {p2 : Pos} {xl xh : Option Int}
theorem lst_slice {te : TE} {K : PySem.W.Frag} (hK : X.K = K) (he : PE X e te) (hl : PO X lo tl) (hu : PO X hi th) (hv : ∀ σ H (Q : VK), C σ H → (∀ a xs, Rd H a (.lst xs) → DqAll H xs ds → Q (.ref a) H) → te σ H Q)
    (h1 : ∀ σ H (Q : Option Int → Hp → Prop), Q xl H → tl σ H Q) (h2 : ∀ σ H (Q : Option Int → Hp → Prop), Q xh H → th σ H Q) : PE X (.Subscript e (.Slice lo hi none p2) pos) (tDatL C (cutD ds xl xh)) :=
  pe_mono (pe_slice sl_list he hl hu) fun σ H Q q => hv σ H _ q.1 fun a xs ha hd => h1 _ _ _ (h2 _ _ _ ⟨a, xs, rfl, .inl ha, fun p hp => q.2 _ _ _ (Ex.new hp) upd_same ((dqa_cut hd xl xh).ex (Ex.new hp))⟩)
end
/-- tuple(a name that holds a list) -/
theorem dat_tupOf {te : TE} (hg : Gl X "tuple") (hm : X.mg "tuple" = none) (he : PE X e te) (hv : ∀ σ H (Q : VK), C σ H → (∀ a xs, Rd H a (.lst xs) → DqAll H xs ds → Q (.ref a) H) → te σ H Q)
    (hs : starEach (e :: []) X.env = (false, eval e X.env) :: starEach [] X.env := by rfl) : PE X (.Call (.Name "tuple" p) [e] [] pos) (tDat C (.tuple ds)) :=
  pe_mono (pe_callTy call_tuple_of hg hm boot_tuple (pa_cons he pa_nil hs) (he := hs)) fun σ H Q q => hv σ H _ q.1 fun a xs ha hd => ⟨a, xs, rfl, .inl ⟨.inl ha, fun l hl => q.2 _ _ (Ex.new hl) (.tup (.inl upd_same) (hd.ex (Ex.new hl)))⟩⟩
end
theorem go_dat {C : L2.St → Hp → Prop} {d : PyData} {σ : L2.St} {H : Hp} {Q : VK} (c : C σ H) (k : ∀ H' v, Ex H H' → Dq H' v d → Q v H') : tDat C d σ H Q := ⟨c, k⟩
theorem go_datL {C : L2.St → Hp → Prop} {ds : List PyData} {σ : L2.St} {H : Hp} {Q : VK} (c : C σ H) (k : ∀ H' l xs, Ex H H' → H' l = some (.lst xs) → DqAll H' xs ds → Q (.ref l) H') : tDatL C ds σ H Q := ⟨c, k⟩
end HX

set_option Elab.async false
set_option linter.all false
set_option maxRecDepth 100000
set_option maxHeartbeats 8000000

namespace Kx
open PySem PySem.Spec PyProof.Rows L2 HX TL
open Evl (Ex)
local macro_rules | `(tactic| walk_at "len") => `(tactic| first | assumption | exact le_line (by assumption) | exact le_line (by omega) | exact le_line (Nat.le_trans (cutS_length _ _ _) (by omega)) | (rw [sizeLine_eq]; omega))
local macro_rules | `(tactic| walk_at "side") => `(tactic| first | assumption | ((try dsimp only); first | assumption | decide +kernel | omega | exact ⟨by decide, by decide⟩ | (left; decide) | (left; omega) | (refine Or.inl ⟨?_, ?_⟩ <;> omega) | (refine Or.inr ⟨?_, ?_⟩ <;> omega)))
local macro_rules | `(tactic| walk_at "heap") => `(tactic| first | assumption | exact upd_same | exact Or.inl (by assumption) | exact Or.inl upd_same)
local macro_rules | `(tactic| walk_at "item") => `(tactic| first | exact rfl | exact atI_nat (j := 0) rfl | exact atI_nat (j := 1) rfl | exact atI_nat (j := 2) rfl | assumption)
local macro_rules | `(tactic| walk_at "rd") => `(tactic| repeat (first
  | ((with_reducible refine' go_var ?hv ?_); (case hv => exact rfl))
  | with_reducible refine' go_c ?_
  | with_reducible refine' go_op ?_
  | with_reducible refine' go_seq ?_
  | with_reducible refine' go_asg ?_
  | with_reducible refine' go_name ?_
  | with_reducible refine' go_cons ?_
  | with_reducible refine' go_nil ?_
  | with_reducible refine' go_cb ?_
  | with_reducible refine' go_call ?_
  | with_reducible refine' go_ifS ?_
  | with_reducible refine' go_test ?_
  | with_reducible refine' go_bl ?_
  | with_reducible refine' go_ret ?_
  | with_reducible refine' go_I0 ?_
  | ((with_reducible refine' go_I ?cc ?_); (case cc => walk_at "side"))
  | ((with_reducible refine' go_ixL ?hh ?hk ?_); (case hh => walk_at "heap"); (case hk => walk_at "item"))
  | ((with_reducible refine' go_ixT ?hh ?hk ?_); (case hh => walk_at "heap"); (case hk => walk_at "item"))
  | ((with_reducible refine' go_lenL ?hh ?_); (case hh => walk_at "heap"))
  | ((with_reducible refine' go_lenT ?hh ?_); (case hh => walk_at "heap"))
  | ((with_reducible refine' go_setL ?hh ?hk ?_); (case hh => walk_at "heap"); (case hk => walk_at "item"))
  | with_reducible refine' go_abs ?_
  | with_reducible refine' go_max ?_
  | with_reducible refine' go_min ?_
  | with_reducible refine' go_int ?_
  | with_reducible refine' go_intB ?_
  | (with_reducible refine' go_eq rfl ?_)
  | (with_reducible refine' go_ne rfl ?_)
  | with_reducible refine' go_isN ?_
  | with_reducible refine' go_notN ?_
  | with_reducible refine' go_if ?_
  | with_reducible refine' go_sub ?_
  | with_reducible refine' go_par ?_
  | with_reducible refine' go_sl ?_
  | with_reducible refine' go_part ?_
  | with_reducible refine' go_pint ?_
  | with_reducible refine' go_nopart ?_
  | ((with_reducible refine' go_lenL ?hh ?_); (case hh => walk_at "heap"))
  | ((with_reducible refine' go_lenT ?hh ?_); (case hh => walk_at "heap"))
  | ((with_reducible refine' go_lenS ?hh ?_); (case hh => assumption))
  | with_reducible refine' go_gcons ?_
  | with_reducible refine' go_gnil ?_
  | with_reducible refine' go_kw ?_
  | with_reducible refine' go_par2 ?_
  | with_reducible refine' go_next ?_
  | with_reducible refine' go_drop ?_
  | with_reducible refine' go_and ?_
  | with_reducible refine' go_or ?_
  | with_reducible refine' go_not ?_
  | with_reducible refine' go_B ?_
  | with_reducible refine' go_andV ?_
  | with_reducible refine' go_orV ?_
  | with_reducible refine' go_notV ?_
  | with_reducible refine' go_chain ?_
  | with_reducible refine' go_un ?_
  | with_reducible refine' go_U ?_
  | with_reducible refine' go_bm ?_
  | with_reducible refine' go_tup ?_
  | with_reducible refine' go_lst ?_
  | with_reducible refine' go_forR1 ?_
  | with_reducible refine' go_forR2 ?_
  | with_reducible refine' go_forL ?_
  | with_reducible refine' go_forT ?_
  | with_reducible refine' go_forE ?_
  | with_reducible refine' go_lcR1 ?_
  | with_reducible refine' go_lcL ?_
  | with_reducible refine' go_lcT ?_
  | ((with_reducible refine' go_tyL ?hh ?_); (case hh => walk_at "heap"))
  | ((with_reducible refine' go_new ?hz ?_); (case hz => exact Nat.le_of_ble_eq_true rfl))
  | with_reducible refine' go_par3 ?_
  | with_reducible refine' go_three ?_
  | with_reducible refine' go_m1 ?_
  | with_reducible refine' go_isS ?_
  | with_reducible refine' go_rSw ?_
  | with_reducible refine' go_rFnd ?_
  | ((with_reducible refine' go_rPrt (by decide +kernel) ?hz ?_); (case hz => walk_at "len"))
  | ((with_reducible refine' go_rSpl (by decide +kernel) ?hz ?_); (case hz => walk_at "len"))
  | ((with_reducible refine' go_rLenS ?hz ?_); (case hz => walk_at "len"))
  | ((with_reducible refine' go_slS ?hz ?_); (case hz => walk_at "len"))
  | with_reducible refine' go_sgn ?_
  | with_reducible refine' go_nsg ?_
  | with_reducible refine' go_lcS ?_
  | (with_reducible refine' ⟨_, rfl, ?_⟩)
  ))
--MACEND
def spLaw (K : PySem.W.Frag) : Sp := fun vs H Q _ => ∃ (a : Addr) (ns : List Int), vs = [.ref a] ∧ ns.length ≤ 100000 ∧ SqL K H a (ns.map V.int) ∧ ∀ H', Q (.bl true) H'
theorem fine_dec {w k : Nat} {l : List PyData} (h : (l.all fun d => d.showable && d.leavesShort 200 && decide (d.weight ≤ w) && decide (d.depth ≤ k) && !pStr d) = true) : ∀ d ∈ l, Fine w k d ∧ pStr d = false := by
  intro d hd
  have := List.all_eq_true.mp h d hd
  simp only [Bool.and_eq_true, decide_eq_true_eq, Bool.not_eq_true'] at this
  exact ⟨⟨this.1.1.1.1, this.1.1.1.2, this.1.1.2, this.1.2⟩, this.2⟩
def twoN : PyData := .list [.str (Str.ofString "None"), .str (Str.ofString "None")]
theorem twoN_shaped : SeqAt.shaped twoN = true := by decide +kernel
theorem twoN_eqv : PyData.eqv twoN twoN = true := by decide +kernel
theorem pick_str {u : Int} (l : List Str) (h0 : 0 ≤ u) (h1 : u < l.length) : ∃ b, atI (l.map V.str) u = some (.str b) ∧ b ∈ l := by
  obtain ⟨m, rfl⟩ : ∃ m : Nat, u = m := ⟨u.toNat, by omega⟩
  have hm : m < l.length := by omega
  refine ⟨l[m], atI_nat ?_, List.getElem_mem hm⟩
  rw [List.getElem?_map, List.getElem?_eq_getElem hm]; rfl
def txtA : List Str := [Str.ofString "m5", Str.ofString "", Str.ofString "m5 ", Str.ofString " m5"]
def resA : List Str := [Str.ofString "fine", Str.ofString "0", Str.ofString "1", Str.ofString "0"]
def txtB : List Str := [Str.ofString "4=-", Str.ofString ""]
def resB : List Str := [Str.ofString "fine", Str.ofString "0"]
def sixD : PyData := .list [.str (Str.ofString "fine"), .str (Str.ofString "0"), .str (Str.ofString "1"), .str (Str.ofString "0"), .str (Str.ofString "fine"), .str (Str.ofString "0")]
theorem sixD_shaped : SeqAt.shaped sixD = true := by decide +kernel
theorem sixD_eqv : PyData.eqv sixD sixD = true := by decide +kernel
theorem res_wordsR (t : Str) : resW 0 (.str t) = (match parR (spl [32] 0 [] (tl t)) 0 [] none with | .ok _ => Str.ofString "fine" | .error i => Str.ofString (toString (i : Int))) := by
  rw [resW, if_pos rfl, words_eq]
  all_goals rfl
theorem res_wordsL (t : Str) : resW 1 (.str t) = (match parL (spl [32] 0 [] (tl t)) 0 [] with | .ok _ => Str.ofString "fine" | .error i => Str.ofString (toString (i : Int))) := by
  rw [resW, if_neg (by decide), words_eq]
  all_goals rfl
theorem atA {k : Nat} {u : V} (h : (txtA.map V.str)[k]? = some u) : ∃ z r, txtA[k]? = some z ∧ resA[k]? = some r ∧ u = V.str z ∧ z.length ≤ 100 ∧ Pl z ∧ resW 0 (.str z) = r := by
  match k, h with
  | 0, h => exact ⟨_, _, rfl, rfl, (Option.some.inj h).symm, by decide +kernel, pl_dec (by decide +kernel), by rw [res_wordsR]; decide +kernel⟩
  | 1, h => exact ⟨_, _, rfl, rfl, (Option.some.inj h).symm, by decide +kernel, pl_dec (by decide +kernel), by rw [res_wordsR]; decide +kernel⟩
  | 2, h => exact ⟨_, _, rfl, rfl, (Option.some.inj h).symm, by decide +kernel, pl_dec (by decide +kernel), by rw [res_wordsR]; decide +kernel⟩
  | 3, h => exact ⟨_, _, rfl, rfl, (Option.some.inj h).symm, by decide +kernel, pl_dec (by decide +kernel), by rw [res_wordsR]; decide +kernel⟩
  | _ + 4, h => cases h
theorem atB {k : Nat} {u : V} (h : (txtB.map V.str)[k]? = some u) : ∃ z r, txtB[k]? = some z ∧ resB[k]? = some r ∧ u = V.str z ∧ z.length ≤ 100 ∧ Pl z ∧ resW 1 (.str z) = r := by
  match k, h with
  | 0, h => exact ⟨_, _, rfl, rfl, (Option.some.inj h).symm, by decide +kernel, pl_dec (by decide +kernel), by rw [res_wordsL]; decide +kernel⟩
  | 1, h => exact ⟨_, _, rfl, rfl, (Option.some.inj h).symm, by decide +kernel, pl_dec (by decide +kernel), by rw [res_wordsL]; decide +kernel⟩
  | _ + 2, h => cases h
theorem strs_dq {H : Hp} (z : Str) : ∀ k : Nat, DqAll H (List.replicate k (V.str z)) (List.replicate k (PyData.str z))
  | 0 => .nil
  | k + 1 => .cons (.str z) (strs_dq z k)
section
variable {P : Program} {w : World} {K : PySem.W.Frag} {mg : Str → Option Value} {base : Heap}
abbrev s_law : Stmt := top 42
theorem sc_law : FnScope ["script", "things", "thing", "kind", "at", "tank", "turn", "count", "bad", "words", "spot", "few", "told", "text"] ["script"] (defScope s_law) := ⟨rfl, rfl, rfl, by decide +kernel, rfl, by decide +kernel, by decide +kernel⟩
theorem ok_law {f : Addr} {fd : FuncData} (F : Fun K "law" "law" s_law f fd) (m_range : mg "range" = none) (m_max : mg "max" = none) (m_min : mg "min" = none) (m_len : mg "len" = none) (m_int : mg "int" = none) (m_str : mg "str" = none)
    (h__law_tank : Has P w K mg base 1 "_law_tank" (spJar K)) (h__law_tap : Has P w K mg base 1 "_law_tap" spPick) (h__law_raised : HasG P w K mg base 7 "_law_raised" spRaised) :
    FnG P w K mg base CX0 8 f fd ["script"] (spLaw K) := by
  refine okG F sc_law (fun vs H Q E h => ?_) (fun cdv A outer s H vs Q E hgd hr h => ?_)
  · obtain ⟨a, ns, rfl, _⟩ := h
    rfl
  · obtain ⟨a, ns, rfl, hlen, hS, k⟩ := h
    have hC : Cl C0 := cl0
    refine ⟨_, PSs.nox ((pss_cons (ps_set (i := 1) sc_law.nd rfl (Or.inl rfl) (lst_lit (dat_cons hC dat_non (dat_cons hC dat_int (dat_cons hC dat_int (dat_cons hC dat_bl (dat_cons hC dat_bl (dat_cons hC (dat_lst (lst_lit dat_nil (by first | exact Nat.le_of_ble_eq_true rfl | (refine len_line ?_; simp only [List.length_append, List.length_cons, List.length_nil]; skip; omega)))) (dat_cons hC (dat_lst (lst_lit (dat_cons hC dat_str dat_nil) (by first | exact Nat.le_of_ble_eq_true rfl | (refine len_line ?_; simp only [List.length_append, List.length_cons, List.length_nil]; skip; omega)))) (dat_cons hC (dat_tup (dat_cons hC dat_str dat_nil) (by first | exact Nat.le_of_ble_eq_true rfl | (refine len_line ?_; simp only [List.length_append, List.length_cons, List.length_nil]; skip; omega))) (dat_cons hC (dat_tup dat_nil (by first | exact Nat.le_of_ble_eq_true rfl | (refine len_line ?_; simp only [List.length_append, List.length_cons, List.length_nil]; skip; omega))) (dat_cons hC dat_dic (dat_cons hC dat_dic1 (dat_cons hC (dat_tup (dat_cons hC (dat_lst (lst_lit (dat_cons hC (dat_tup (dat_cons hC dat_str (dat_cons hC dat_int dat_nil)) (by first | exact Nat.le_of_ble_eq_true rfl | (refine len_line ?_; simp only [List.length_append, List.length_cons, List.length_nil]; skip; omega))) dat_nil) (by first | exact Nat.le_of_ble_eq_true rfl | (refine len_line ?_; simp only [List.length_append, List.length_cons, List.length_nil]; skip; omega)))) (dat_cons hC dat_int dat_nil)) (by first | exact Nat.le_of_ble_eq_true rfl | (refine len_line ?_; simp only [List.length_append, List.length_cons, List.length_nil]; skip; omega))) (dat_cons hC (dat_lst (lst_lit (dat_cons hC (dat_tup (dat_cons hC dat_int (dat_cons hC dat_non (dat_cons hC dat_non dat_nil))) (by first | exact Nat.le_of_ble_eq_true rfl | (refine len_line ?_; simp only [List.length_append, List.length_cons, List.length_nil]; skip; omega))) dat_nil) (by first | exact Nat.le_of_ble_eq_true rfl | (refine len_line ?_; simp only [List.length_append, List.length_cons, List.length_nil]; skip; omega)))) dat_nil))))))))))))) (by first | exact Nat.le_of_ble_eq_true rfl | (refine len_line ?_; simp only [List.length_append, List.length_cons, List.length_nil]; skip; omega))))
  (pss_cons (ps_for PassesOwn.never rfl (pi_list (pv 1)) (pg_name (i := 2) sc_law.nd rfl (Or.inr rfl))
  (pss_one (ps_if (pt_cmpR (op_neD hr.units) (pe_lc (own := [("kind", 3)]) (g := gName 3) (by rfl) (sc_law).nd (pi_tup (pe_tup (pa_cons pe_int (pa_cons pe_int pa_nil)))) (blkOk_by (own := [("kind", 3)]) (N := ["script", "things", "thing", "kind", "at", "tank", "turn", "count", "bad", "words", "spot", "few", "told", "text"]) (sc := defScope s_law) (by decide +kernel)) (fun _ _ _ _ _ => pg_name (i := 3) (sc_law).nd rfl (Or.inl rfl)) (fun _ _ _ _ _ => pts_nil) (fun _ _ _ _ _ => (pe_hsG h__law_raised hgd hr rfl (pa_cons (pv 3) (pa_cons (pv 2) pa_nil))))) (pe_lst (pa_cons pe_str (pa_cons pe_str pa_nil))) (nomark _))
  (pss_one (ps_ret pe_bl))
  pss_nil)))
  (pss_cons (ps_for PassesOwn.never rfl (pi_range1 (by rfl) m_range (pa_cons (pe_callB (call_maxQ rfl) rfl m_max boot_max (pa_cons pe_int (pa_cons (pe_callB (call_minQ rfl) rfl m_min boot_min (pa_cons pe_int (pa_cons (pe_callB call_lenQ rfl m_len PySem.boot_len (pa_cons (pv 0) pa_nil)) pa_nil))) pa_nil))) pa_nil)) (pg_name (i := 4) sc_law.nd rfl (Or.inl rfl))
  (pss_cons (ps_set (i := 5) sc_law.nd rfl (Or.inr rfl) (pe_hs h__law_tank hr rfl (pa_cons (pv 0) (pa_cons (pv 4) pa_nil))))
  (pss_one (ps_for PassesOwn.never rfl (pi_range1 (by rfl) m_range (pa_cons pe_int pa_nil)) (pg_name (i := 6) sc_law.nd rfl (Or.inl rfl))
  (pss_cons (ps_set (i := 7) sc_law.nd rfl (Or.inl rfl) (pe_hs h__law_tap hr rfl (pa_cons (pv 5) (pa_cons pe_int pa_nil))))
  (pss_cons (ps_set (i := 8) sc_law.nd rfl (Or.inl rfl) (pe_ix ix_list (pe_lst (pa_cons pe_str (pa_cons pe_str (pa_cons pe_str (pa_cons pe_str (pa_cons pe_str (pa_cons pe_str (pa_cons pe_str (pa_cons pe_str pa_nil))))))))) (pe_hs h__law_tap hr rfl (pa_cons (pv 5) (pa_cons pe_int pa_nil))) (fun _ _ => rfl)))
  (pss_cons (ps_set (i := 9) sc_law.nd rfl (Or.inl rfl) (pe_op op_cat (pe_lc (own := [("spot", 10)]) (g := gName 10) (by rfl) (sc_law).nd (pi_range1 (by rfl) m_range (pa_cons (pv 7) pa_nil)) (blkOk_by (own := [("spot", 10)]) (N := ["script", "things", "thing", "kind", "at", "tank", "turn", "count", "bad", "words", "spot", "few", "told", "text"]) (sc := defScope s_law) (by decide +kernel)) (fun _ _ _ _ _ => pg_name (i := 10) (sc_law).nd rfl (Or.inl rfl)) (fun _ _ _ _ _ => pts_nil) (fun _ _ _ _ _ => (pe_op op_addS pe_str (pe_callTy call_strI rfl m_str boot_str (pa_cons (pe_hs h__law_tap hr rfl (pa_cons (pv 5) (pa_cons pe_int pa_nil))) pa_nil))))) (pe_lst (pa_cons (pv 8) (pa_cons pe_str pa_nil)))))
  (pss_cons (ps_if (pt_cmpR op_ne (pe_hsG h__law_raised hgd hr rfl (pa_cons pe_int (pa_cons (pe_m1 PySem.F.slot_str_join PySem.F.type_str_join mt_joi pe_str (pv 9)) pa_nil))) (pe_callTy call_strI rfl m_str boot_str (pa_cons (pe_op op_add (pv 7) (pe_callTy call_intQ rfl m_int boot_int (pa_cons (pe_cmpR op_eq (pv 8) pe_str (nomark _)) pa_nil))) pa_nil)) (nomark _))
  (pss_one (ps_ret pe_bl))
  pss_nil)
  (pss_cons (ps_set (i := 11) sc_law.nd rfl (Or.inl rfl) (pe_hs h__law_tap hr rfl (pa_cons (pv 5) (pa_cons pe_int pa_nil))))
  (pss_cons (ps_set (i := 8) sc_law.nd rfl (Or.inl rfl) (pe_ix ix_list (pe_lst (pa_cons pe_str (pa_cons pe_str (pa_cons pe_str (pa_cons pe_str (pa_cons pe_str (pa_cons pe_str (pa_cons pe_str (pa_cons pe_str pa_nil))))))))) (pe_hs h__law_tap hr rfl (pa_cons (pv 5) (pa_cons pe_int pa_nil))) (fun _ _ => rfl)))
  (pss_cons (ps_set (i := 9) sc_law.nd rfl (Or.inl rfl) (pe_op op_cat (pe_lc (own := [("spot", 10)]) (g := gName 10) (by rfl) (sc_law).nd (pi_range1 (by rfl) m_range (pa_cons (pv 11) pa_nil)) (blkOk_by (own := [("spot", 10)]) (N := ["script", "things", "thing", "kind", "at", "tank", "turn", "count", "bad", "words", "spot", "few", "told", "text"]) (sc := defScope s_law) (by decide +kernel)) (fun _ _ _ _ _ => pg_name (i := 10) (sc_law).nd rfl (Or.inl rfl)) (fun _ _ _ _ _ => pts_nil) (fun _ _ _ _ _ => (pe_op op_addS (pe_callTy call_strI rfl m_str boot_str (pa_cons (pe_hs h__law_tap hr rfl (pa_cons (pv 5) (pa_cons pe_int pa_nil))) pa_nil)) pe_str))) (pe_lst (pa_cons (pv 8) pa_nil))))
  (pss_one (ps_if (pt_cmpR op_ne (pe_hsG h__law_raised hgd hr rfl (pa_cons pe_int (pa_cons (pe_m1 PySem.F.slot_str_join PySem.F.type_str_join mt_joi pe_str (pv 9)) pa_nil))) (pe_callTy call_strI rfl m_str boot_str (pa_cons (pv 11) pa_nil)) (nomark _))
  (pss_one (ps_ret pe_bl))
  pss_nil)))))))))))))
  (pss_cons (ps_setLc (i := 12) (own := [("text", 13)]) (g := gName 13) (by rfl) sc_law.nd rfl rfl (sw_true rfl rfl rfl (by decide +kernel)) (pi_tup (pe_tup (pa_cons pe_str (pa_cons pe_str (pa_cons pe_str (pa_cons pe_str pa_nil)))))) (blkOk_by (own := [("text", 13)]) (N := ["script", "things", "thing", "kind", "at", "tank", "turn", "count", "bad", "words", "spot", "few", "told", "text"]) (sc := defScope s_law) (by decide +kernel)) (fun _ _ _ _ _ => pg_name (i := 13) (sc_law).nd rfl (Or.inl rfl)) (fun _ _ _ _ _ => pts_nil) (fun _ _ _ _ _ => (pe_hsG h__law_raised hgd hr rfl (pa_cons pe_int (pa_cons (pv 13) pa_nil)))))
  (pss_cons (ps_set (i := 12) sc_law.nd rfl (Or.inl rfl) (pe_op op_cat (pv 12) (pe_lc (own := [("text", 13)]) (g := gName 13) (by rfl) (sc_law).nd (pi_tup (pe_tup (pa_cons pe_str (pa_cons pe_str pa_nil)))) (blkOk_by (own := [("text", 13)]) (N := ["script", "things", "thing", "kind", "at", "tank", "turn", "count", "bad", "words", "spot", "few", "told", "text"]) (sc := defScope s_law) (by decide +kernel)) (fun _ _ _ _ _ => pg_name (i := 13) (sc_law).nd rfl (Or.inl rfl)) (fun _ _ _ _ _ => pts_nil) (fun _ _ _ _ _ => (pe_hsG h__law_raised hgd hr rfl (pa_cons pe_int (pa_cons (pv 13) pa_nil)))))))
  (pss_one (ps_ret (pe_cmpR (op_eqD hr.units) (pv 12) (pe_lst (pa_cons pe_str (pa_cons pe_str (pa_cons pe_str (pa_cons pe_str (pa_cons pe_str (pa_cons pe_str pa_nil))))))) (nomark _)))))))))), ?_⟩
    walk_at "rd"
    refine go_datL trivial fun H1 l1 xs1 e1 hl1 hd1 => ?_
    have fin := fine_dec (w := 300) (k := 3) (l := [PyData.none, PyData.int 0, PyData.int 5, PyData.bool true, PyData.bool false, PyData.list [],
      PyData.list [PyData.str (Str.ofString "m5")], PyData.tuple [PyData.str (Str.ofString "m5")], PyData.tuple [],
      PyData.dict [], PyData.dict [(PyData.str (Str.ofString "m5"), PyData.int 4)],
      PyData.tuple [PyData.list [PyData.tuple [PyData.str (Str.ofString "mix"), PyData.int 5]], PyData.int 4],
      PyData.list [PyData.tuple [PyData.int 4, PyData.none, PyData.none]]]) (by decide +kernel)
    generalize [PyData.none, PyData.int 0, PyData.int 5, PyData.bool true, PyData.bool false, PyData.list [],
      PyData.list [PyData.str (Str.ofString "m5")], PyData.tuple [PyData.str (Str.ofString "m5")], PyData.tuple [],
      PyData.dict [], PyData.dict [(PyData.str (Str.ofString "m5"), PyData.int 4)],
      PyData.tuple [PyData.list [PyData.tuple [PyData.str (Str.ofString "mix"), PyData.int 5]], PyData.int 4],
      PyData.list [PyData.tuple [PyData.int 4, PyData.none, PyData.none]]] = ds at *
    walk_at "rd"
    refine ⟨⟨xs1, .inl (.inl hl1)⟩, ?_⟩
    refine run_forL xs1 (fun i σ G => ∃ v2 v3 v4 v5 v6 v7 v8 v9 v10 v11 v12 v13 : Option V, σ = [some (.ref a), some (.ref l1), v2, v3, v4, v5, v6, v7, v8, v9, v10, v11, v12, v13] ∧ Ex H1 G) ?_ ?_ ?_ ?_
    · exact ⟨_, _, _, _, _, _, _, _, _, _, _, _, rfl, Ex.refl _⟩
    · rintro i σ G _ ⟨_, _, _, _, _, _, _, _, _, _, _, _, rfl, e⟩
      exact .inl (.inl (e _ _ hl1))
    · rintro i v σ G hv ⟨v2, v3, v4, v5, v6, v7, v8, v9, v10, v11, v12, v13, rfl, e⟩
      obtain ⟨d, hd, dv⟩ := hd1.get hv
      obtain ⟨f1, f2⟩ := fin d (List.mem_of_getElem? hd)
      have dG := dv.ex e
      walk_at "rd"
      intro pt npt
      have hpt := upd_same (H := G) (a := pt) (o := HO.tup ([0, 1].map fun z : Int => V.int z))
      have e2 := Ex.new (o := HO.tup ([0, 1].map fun z : Int => V.int z)) npt
      refine ⟨pt, rfl, ⟨_, .inl (.inl hpt)⟩, ?_⟩
      refine run_lcT ([0, 1].map fun z : Int => V.int z) (fun D k G' => upd G pt (HO.tup ([0, 1].map fun z : Int => V.int z)) D = none ∧ Ex (upd G pt (HO.tup ([0, 1].map fun z : Int => V.int z))) G' ∧ G' D = some (.lst (List.replicate k (V.str (Str.ofString "None"))))) ?_ ?_ ?_ ?_
      · exact fun D hD => ⟨hD, Ex.new hD, upd_same⟩
      · rintro D k G' _ ⟨_, e', _⟩
        exact .inl (.inl (e' _ _ hpt))
      · rintro D k u G' hu ⟨hD, e', hG'⟩
        obtain ⟨z, hz, rfl⟩ : ∃ z : Int, [0, 1][k]? = some z ∧ u = V.int z := by
          rw [List.getElem?_map] at hu
          exact (Option.map_eq_some_iff.mp hu).imp fun z h => ⟨h.1, h.2.symm⟩
        have hk2 : k < 2 := (List.getElem?_eq_some_iff.mp hz).1
        walk_at "rd"
        refine ⟨rfl, go_yes (iteT ?_)⟩
        walk_at "rd"
        refine ⟨z, v, d, 300, 3, rfl, dG.ex (e2.trans e'), f1, by decide, by decide, fun t et => (by rw [et] at f2; cases f2), fun G2 e3 => ?_⟩
        rw [resW_none f2]
        refine ⟨_, e3 _ _ hG', ?_, hD, (e'.trans e3).mut hD, ?_⟩
        · rw [List.length_replicate, sizeLine_eq]; omega
        · rw [upd_same, List.replicate_succ']
      · rintro D G' hD ⟨_, e', hG'⟩
        walk_at "rd"
        intro q nq
        have eq := Ex.new (o := HO.lst [V.str (Str.ofString "None"), V.str (Str.ofString "None")]) nq
        refine go_neD (d := twoN) (e := twoN) (.lst (.inl (eq _ _ hG')) (.cons (.str _) (.cons (.str _) .nil))) (.lst (.inl upd_same) (.cons (.str _) (.cons (.str _) .nil))) twoN_shaped twoN_shaped ?_
        rw [twoN_eqv]
        walk_at "rd"
        refine iteF ?_
        refine go_next ?_
        exact ⟨_, _, _, _, _, _, _, _, _, _, _, _, rfl, ((e.trans e2).trans e').trans eq⟩
    · rintro σ G ⟨v2, v3, v4, v5, v6, v7, v8, v9, v10, v11, v12, v13, rfl, e⟩
      have hSG := Evl.ex_l (e1.trans e) hS
      walk_at "rd"
      generalize hm : (if (if ((ns.map V.int).length : Int) < 3 then ((ns.map V.int).length : Int) else 3) > 1 then (if ((ns.map V.int).length : Int) < 3 then ((ns.map V.int).length : Int) else 3) else 1) = m
      have m18 : 1 ≤ m ∧ m ≤ 3 := by
        rw [← hm]
        constructor <;> (repeat' split) <;> omega
      refine ⟨by omega, by omega, ?_⟩
      refine run_forR (fun i σ G' => ∃ v2 v3 v4 v5 v6 v7 v8 v9 v10 v11 v12 v13 : Option V, σ = [some (.ref a), some (.ref l1), v2, v3, v4, v5, v6, v7, v8, v9, v10, v11, v12, v13] ∧ Ex G G') ?_ ?_ ?_
      · exact ⟨_, _, _, _, _, _, _, _, _, _, _, _, rfl, Ex.refl _⟩
      · rintro i σ G0 hi ⟨v2, v3, v4, v5, v6, v7, v8, v9, v10, v11, v12, v13, rfl, eG⟩
        walk_at "rd"
        refine ⟨a, ns, i, by simp, Evl.ex_l eG hSG, by omega, fun j G1 hj eJ hJ => ?_⟩
        have hjH : G j = none := Evl.fresh_back eG hj
        walk_at "rd"
        refine ⟨by omega, by omega, ?_⟩
        refine run_forR (fun n σ G' => ∃ v2 v3 v6 v7 v8 v9 v10 v11 v12 v13 : Option V, σ = [some (.ref a), some (.ref l1), v2, v3, some (.int (0 + (i : Int))), some (.ref j), v6, v7, v8, v9, v10, v11, v12, v13] ∧ Jx [j] G G' ∧ JarAt (30 * n) G' j) ?_ ?_ ?_
        · exact ⟨_, _, _, _, _, _, _, _, _, _, rfl, Jx.of (eG.trans eJ), hJ⟩
        · rintro n σ G2 hn ⟨v2, v3, v6, v7, v8, v9, v10, v11, v12, v13, rfl, x2, J2⟩
          have hn6 : n < 6 := by omega
          walk_at "rd"
          refine pick_go J2 (by omega) (by omega) (by omega) fun cnt G3 c0 c1 J3 x3 => ?_
          obtain ⟨c, rfl⟩ : ∃ z : Nat, cnt = z := ⟨cnt.toNat, by omega⟩
          walk_at "rd"
          intro pm nm
          have hpmj := fresh_ne J3.obj.choose_spec nm
          have hpm : upd G3 pm (HO.lst [V.str (Str.ofString ""), V.str (Str.ofString "m"), V.str (Str.ofString "x"), V.str (Str.ofString "d1 "), V.str (Str.ofString "5"), V.str (Str.ofString "p2..1"), V.str (Str.ofString "m-1"), V.str (Str.ofString "m1\n")]) pm = some (.lst (badsR.map V.str)) := upd_same
          have J4 := J3.lay (o := HO.lst [V.str (Str.ofString ""), V.str (Str.ofString "m"), V.str (Str.ofString "x"), V.str (Str.ofString "d1 "), V.str (Str.ofString "5"), V.str (Str.ofString "p2..1"), V.str (Str.ofString "m-1"), V.str (Str.ofString "m1\n")]) nm
          have x4 : Jx [j] G3 (upd G3 pm (HO.lst [V.str (Str.ofString ""), V.str (Str.ofString "m"), V.str (Str.ofString "x"), V.str (Str.ofString "d1 "), V.str (Str.ofString "5"), V.str (Str.ofString "p2..1"), V.str (Str.ofString "m-1"), V.str (Str.ofString "m1\n")])) := Jx.new nm
          generalize upd G3 pm (HO.lst [V.str (Str.ofString ""), V.str (Str.ofString "m"), V.str (Str.ofString "x"), V.str (Str.ofString "d1 "), V.str (Str.ofString "5"), V.str (Str.ofString "p2..1"), V.str (Str.ofString "m-1"), V.str (Str.ofString "m1\n")]) = G4 at *
          walk_at "rd"
          refine pick_go J4 (by omega) (by omega) (by omega) fun u G5 u0 u1 J5 x5 => ?_
          obtain ⟨b, hb, hbm⟩ := pick_str badsR u0 u1
          walk_at "rd"
          refine go_ixL (.inl (x5.get hpm (nin1 hpmj))) hb ?_
          walk_at "rd"
          refine ⟨by omega, by omega, ?_⟩
          refine run_lcR (fun D i G' => G5 D = none ∧ Jx [j] G5 G' ∧ JarAt (30 * n + 2 + i) G' j ∧ ∃ vs : List Nat, vs.length = i ∧ (∀ v ∈ vs, v < 99) ∧ G' D = some (.lst (vs.map fun v => V.str (mS v)))) ?_ ?_ ?_
          · exact fun D hD => ⟨hD, Jx.new hD, J5.lay hD, [], rfl, (fun v h => nomatch h), upd_same⟩
          · rintro D i2 G' hi2 ⟨hD, xx, JJ, vs, vl, vv, hG'⟩
            have hDj := fresh_ne J5.obj.choose_spec hD
            walk_at "rd"
            refine ⟨rfl, go_yes (iteT ?_)⟩
            walk_at "rd"
            refine pick_go JJ (by omega) (by omega) (by omega) fun v G6 v0 v1 J6 x6 => ?_
            obtain ⟨v, rfl⟩ : ∃ z : Nat, v = z := ⟨v.toNat, by omega⟩
            have hv : v < 99 := by omega
            have sl : (Str.ofString (toString (v : Int))).length ≤ 31 := small_len (k := 30) (by decide) (small99 hv)
            have ml := one_len.1
            have sz := sizeLine_eq
            walk_at "rd"
            refine go_rStrI (small_log (k := 30) (by decide) (small99 hv)) ?_
            refine go_rAddS (by omega) ?_
            refine ⟨_, x6.get hG' (nin1 hDj), by rw [List.length_map, sz]; omega, hD, Jx.mut (xx.tr x6) hD, (J6.mono (by omega)).keep (upd_ne hDj.symm), vs ++ [v], by simp [vl], fun z hz => ?_, by rw [upd_same, List.map_append]; rfl⟩
            rcases List.mem_append.mp hz with hz | hz
            · exact vv z hz
            · rw [List.mem_singleton.mp hz]; exact hv
          · rintro D G' hD ⟨_, xx, JJ, vs, vl, vv, hG'⟩
            have vl : vs.length = c := by simpa using vl
            have h7 : vs.length ≤ 7 := by omega
            have ok := setR_ok h7 vv hbm
            obtain ⟨t1, t2, t3⟩ := join_ok (by simp; omega) ok
            walk_at "rd"
            intro pc nc
            refine go_cat ((Ex.new nc) _ _ hG') upd_same (by rw [List.length_map, sizeLine_eq]; show vs.length + 2 ≤ _; omega) fun pw nw => ?_
            have x7 := (Jx.of (S := [j]) (Ex.new (o := HO.lst [V.str b, V.str (Str.ofString "m0")]) nc)).tr (Jx.of (Ex.new (o := HO.lst (vs.map (fun v => V.str (mS v)) ++ [V.str b, V.str (Str.ofString "m0")])) nw))
            have J7 := (JJ.lay (o := HO.lst [V.str b, V.str (Str.ofString "m0")]) nc).lay (o := HO.lst (vs.map (fun v => V.str (mS v)) ++ [V.str b, V.str (Str.ofString "m0")])) nw
            have hpw : upd (upd G' pc (HO.lst [V.str b, V.str (Str.ofString "m0")])) pw (HO.lst (vs.map (fun v => V.str (mS v)) ++ [V.str b, V.str (Str.ofString "m0")])) pw = some (.lst ((vs.map mS ++ [b, Str.ofString "m0"]).map V.str)) := by
              rw [upd_same, List.map_append, List.map_map]; rfl
            generalize upd (upd G' pc (HO.lst [V.str b, V.str (Str.ofString "m0")])) pw (HO.lst (vs.map (fun v => V.str (mS v)) ++ [V.str b, V.str (Str.ofString "m0")])) = G7 at *
            walk_at "rd"
            refine go_rJoi (.inl hpw) t3 ?_
            walk_at "rd"
            refine ⟨0, _, _, 400, 0, rfl, .str _, t2.fine t1, by decide, by decide, fun t et => (by cases et; omega), fun G8 e8 => ?_⟩
            rw [res_r h7 vv hbm, vl]
            walk_at "rd"
            refine go_rStrI (small_log (k := 30) (by decide) (by unfold Small; split <;> omega)) ?_
            walk_at "rd"
            rw [decide_eq_true rfl]
            refine iteF ?_
            have X8 := (((((x2.tr x3).tr x4).tr x5).tr xx).tr x7).tr (Jx.of e8)
            have J8 := jar_ex e8 J7
            walk_at "rd"
            refine pick_go J8 (by omega) (by omega) (by omega) fun cnt2 G9 d0 d1 J9 x9 => ?_
            obtain ⟨c2, rfl⟩ : ∃ z : Nat, cnt2 = z := ⟨cnt2.toNat, by omega⟩
            walk_at "rd"
            intro pn nn
            have hpnj := fresh_ne J9.obj.choose_spec nn
            have hpn : upd G9 pn (HO.lst [V.str (Str.ofString ""), V.str (Str.ofString "4"), V.str (Str.ofString "4="), V.str (Str.ofString "=-"), V.str (Str.ofString "4=6..3"), V.str (Str.ofString "4=-\n"), V.str (Str.ofString "-0=-"), V.str (Str.ofString "+4=-")]) pn = some (.lst (badsL.map V.str)) := upd_same
            have J10 := J9.lay (o := HO.lst [V.str (Str.ofString ""), V.str (Str.ofString "4"), V.str (Str.ofString "4="), V.str (Str.ofString "=-"), V.str (Str.ofString "4=6..3"), V.str (Str.ofString "4=-\n"), V.str (Str.ofString "-0=-"), V.str (Str.ofString "+4=-")]) nn
            have x10 : Jx [j] G9 (upd G9 pn (HO.lst [V.str (Str.ofString ""), V.str (Str.ofString "4"), V.str (Str.ofString "4="), V.str (Str.ofString "=-"), V.str (Str.ofString "4=6..3"), V.str (Str.ofString "4=-\n"), V.str (Str.ofString "-0=-"), V.str (Str.ofString "+4=-")])) := Jx.new nn
            generalize upd G9 pn (HO.lst [V.str (Str.ofString ""), V.str (Str.ofString "4"), V.str (Str.ofString "4="), V.str (Str.ofString "=-"), V.str (Str.ofString "4=6..3"), V.str (Str.ofString "4=-\n"), V.str (Str.ofString "-0=-"), V.str (Str.ofString "+4=-")]) = G10 at *
            walk_at "rd"
            refine pick_go J10 (by omega) (by omega) (by omega) fun u' G11 u0' u1' J11 x11 => ?_
            obtain ⟨b', hb', hbm'⟩ := pick_str badsL u0' u1'
            walk_at "rd"
            refine go_ixL (.inl (x11.get hpn (nin1 hpnj))) hb' ?_
            walk_at "rd"
            refine ⟨by omega, by omega, ?_⟩
            refine run_lcR (fun D i G' => G11 D = none ∧ Jx [j] G11 G' ∧ JarAt (30 * n + 20 + i) G' j ∧ ∃ vs : List Nat, vs.length = i ∧ (∀ v ∈ vs, v < 99) ∧ G' D = some (.lst (vs.map fun v => V.str (lS v)))) ?_ ?_ ?_
            · exact fun D hD => ⟨hD, Jx.new hD, (J11.mono (by omega)).lay hD, [], rfl, (fun v h => nomatch h), upd_same⟩
            · rintro D i2 G' hi2 ⟨hD, xx, JJ, vs, vl, vv, hG'⟩
              have hDj := fresh_ne J11.obj.choose_spec hD
              walk_at "rd"
              refine ⟨rfl, go_yes (iteT ?_)⟩
              walk_at "rd"
              refine pick_go JJ (by omega) (by omega) (by omega) fun v G6 v0 v1 J6 x6 => ?_
              obtain ⟨v, rfl⟩ : ∃ z : Nat, v = z := ⟨v.toNat, by omega⟩
              have hv : v < 99 := by omega
              have sl : (Str.ofString (toString (v : Int))).length ≤ 31 := small_len (k := 30) (by decide) (small99 hv)
              have ml : (Str.ofString "=-").length = 2 := by decide +kernel
              have sz := sizeLine_eq
              walk_at "rd"
              refine go_rStrI (small_log (k := 30) (by decide) (small99 hv)) ?_
              walk_at "rd"
              refine go_rAddS (by omega) ?_
              refine ⟨_, x6.get hG' (nin1 hDj), by rw [List.length_map, sz]; omega, hD, Jx.mut (xx.tr x6) hD, (J6.mono (by omega)).keep (upd_ne hDj.symm), vs ++ [v], by simp [vl], fun z hz => ?_, by rw [upd_same, List.map_append]; rfl⟩
              rcases List.mem_append.mp hz with hz | hz
              · exact vv z hz
              · rw [List.mem_singleton.mp hz]; exact hv
            · rintro D2 G' hD ⟨_, xx2, JJ2, vs2, vl2, vv2, hG2'⟩
              have vl2 : vs2.length = c2 := by simpa using vl2
              have h5 : vs2.length ≤ 5 := by omega
              have ok2 := setL_ok h5 vv2 hbm'
              obtain ⟨t1, t2, t3⟩ := join_ok (by simp; omega) ok2
              walk_at "rd"
              intro pc2 nc2
              refine go_cat ((Ex.new nc2) _ _ hG2') upd_same (by rw [List.length_map, sizeLine_eq]; show vs2.length + 1 ≤ _; omega) fun pw2 nw2 => ?_
              have x12 := (Jx.of (S := [j]) (Ex.new (o := HO.lst [V.str b']) nc2)).tr (Jx.of (Ex.new (o := HO.lst (vs2.map (fun v => V.str (lS v)) ++ [V.str b'])) nw2))
              have J12 := (JJ2.lay (o := HO.lst [V.str b']) nc2).lay (o := HO.lst (vs2.map (fun v => V.str (lS v)) ++ [V.str b'])) nw2
              have hpw2 : upd (upd G' pc2 (HO.lst [V.str b'])) pw2 (HO.lst (vs2.map (fun v => V.str (lS v)) ++ [V.str b'])) pw2 = some (.lst ((vs2.map lS ++ [b']).map V.str)) := by
                rw [upd_same, List.map_append, List.map_map]; rfl
              generalize upd (upd G' pc2 (HO.lst [V.str b'])) pw2 (HO.lst (vs2.map (fun v => V.str (lS v)) ++ [V.str b'])) = G12 at *
              walk_at "rd"
              refine go_rJoi (.inl hpw2) t3 ?_
              walk_at "rd"
              refine ⟨1, _, _, 400, 0, rfl, .str _, t2.fine t1, by decide, by decide, fun t et => (by cases et; omega), fun G13 e13 => ?_⟩
              rw [res_l h5 vv2 hbm', vl2]
              walk_at "rd"
              refine go_rStrI (small_log (k := 30) (by decide) (by unfold Small; omega)) ?_
              walk_at "rd"
              rw [decide_eq_true rfl]
              refine iteF ?_
              refine go_next ?_
              exact ⟨_, _, _, _, _, _, _, _, _, _, rfl, (((((X8.tr x9).tr x10).tr x11).tr xx2).tr x12).tr (Jx.of e13), (jar_ex e13 J12).mono (by omega)⟩
        · rintro σ G2 ⟨v2, v3, v6, v7, v8, v9, v10, v11, v12, v13, rfl, x2, J2⟩
          exact ⟨_, _, _, _, _, _, _, _, _, _, _, _, rfl, (jx_hid x2 hjH).trans hid_ex⟩
      · rintro σ G2 ⟨v2, v3, v4, v5, v6, v7, v8, v9, v10, v11, v12, v13, rfl, e2⟩
        walk_at "rd"
        intro pA nA
        have hpA := upd_same (H := G2) (a := pA) (o := HO.tup (txtA.map V.str))
        have eA := Ex.new (o := HO.tup (txtA.map V.str)) nA
        refine ⟨pA, rfl, ⟨_, .inl (.inl hpA)⟩, ?_⟩
        refine run_lcT (txtA.map V.str) (fun D k G' => upd G2 pA (HO.tup (txtA.map V.str)) D = none ∧ Ex (upd G2 pA (HO.tup (txtA.map V.str))) G' ∧ G' D = some (.lst ((resA.take k).map V.str))) ?_ ?_ ?_ ?_
        · exact fun D hD => ⟨hD, Ex.new hD, upd_same⟩
        · rintro D k G' _ ⟨_, e', _⟩
          exact .inl (.inl (e' _ _ hpA))
        · rintro D k u G' hu ⟨hD, e', hG'⟩
          obtain ⟨z, r, hz, hr, rfl, zl, zp, zr⟩ := atA hu
          walk_at "rd"
          refine ⟨rfl, go_yes (iteT ?_)⟩
          walk_at "rd"
          refine ⟨0, _, _, 100, 0, rfl, .str _, zp.fine zl, by decide, by decide, fun t et => (by cases et; omega), fun G4 e4 => ?_⟩
          rw [zr]
          have rl : resA.length ≤ 6 := by decide
          refine ⟨_, e4 _ _ hG', ?_, hD, (e'.trans e4).mut hD, ?_⟩
          · rw [List.length_map, List.length_take, sizeLine_eq]; omega
          · rw [upd_same, List.take_succ, hr, List.map_append]; rfl
        · rintro D1 GA hD1 ⟨_, eA', hD1'⟩
          rw [List.length_map, show txtA.length = 4 from rfl, show resA.take 4 = resA from rfl] at hD1'
          walk_at "rd"
          intro pB nB
          have hpB := upd_same (H := GA) (a := pB) (o := HO.tup (txtB.map V.str))
          have eB := Ex.new (o := HO.tup (txtB.map V.str)) nB
          refine ⟨pB, rfl, ⟨_, .inl (.inl hpB)⟩, ?_⟩
          refine run_lcT (txtB.map V.str) (fun D k G' => upd GA pB (HO.tup (txtB.map V.str)) D = none ∧ Ex (upd GA pB (HO.tup (txtB.map V.str))) G' ∧ G' D = some (.lst ((resB.take k).map V.str))) ?_ ?_ ?_ ?_
          · exact fun D hD => ⟨hD, Ex.new hD, upd_same⟩
          · rintro D k G' _ ⟨_, e', _⟩
            exact .inl (.inl (e' _ _ hpB))
          · rintro D k u G' hu ⟨hD, e', hG'⟩
            obtain ⟨z, r, hz, hr, rfl, zl, zp, zr⟩ := atB hu
            walk_at "rd"
            refine ⟨rfl, go_yes (iteT ?_)⟩
            walk_at "rd"
            refine ⟨1, _, _, 100, 0, rfl, .str _, zp.fine zl, by decide, by decide, fun t et => (by cases et; omega), fun G4 e4 => ?_⟩
            rw [zr]
            have rl : resB.length ≤ 6 := by decide
            refine ⟨_, e4 _ _ hG', ?_, hD, (e'.trans e4).mut hD, ?_⟩
            · rw [List.length_map, List.length_take, sizeLine_eq]; omega
            · rw [upd_same, List.take_succ, hr, List.map_append]; rfl
          · rintro D2 GB hD2 ⟨_, eB', hD2'⟩
            rw [List.length_map, show txtB.length = 2 from rfl, show resB.take 2 = resB from rfl] at hD2'
            refine go_cat ((eB.trans eB') _ _ hD1') hD2' (by show 6 ≤ sizeLine; rw [sizeLine_eq]; decide) fun pc nc => ?_
            have hc := upd_same (H := GB) (a := pc) (o := HO.lst (resA.map V.str ++ resB.map V.str))
            generalize upd GB pc _ = GC at *
            walk_at "rd"
            intro pe ne
            have ee := Ex.new (o := HO.lst ([Str.ofString "fine", Str.ofString "0", Str.ofString "1", Str.ofString "0", Str.ofString "fine", Str.ofString "0"].map V.str)) ne
            refine go_eqD (d := sixD) (e := sixD) (.lst (.inl (ee _ _ hc)) (.cons (.str _) (.cons (.str _) (.cons (.str _) (.cons (.str _) (.cons (.str _) (.cons (.str _) .nil))))))) (.lst (.inl upd_same) (.cons (.str _) (.cons (.str _) (.cons (.str _) (.cons (.str _) (.cons (.str _) (.cons (.str _) .nil))))))) sixD_shaped sixD_shaped ?_
            rw [sixD_eqv]
            walk_at "rd"
            exact k _
end
end Kx

set_option Elab.async false
set_option linter.all false
set_option maxRecDepth 100000
set_option maxHeartbeats 2000000
namespace Kx
open PySem PySem.Spec PyProof.Rows L2 HX TL
open Evl (Ex)

theorem all_mk {P : Program} {w : World} {K : PySem.W.Frag} {h : Heap} {mg : Str → Option Value} {fa f1 f2 f3 f4 f5 f6 f7 f8 f9 f10 f11 f12 f13 f14 f15 f16 f17 f18 f19 : Addr} {od1 an1 od2 an2 od3 an3 od4 an4 od5 an5 od6 an6 od7 an7 od8 an8 od9 an9 od10 an10 od11 an11 od12 an12 od13 an13 od14 an14 od15 an15 od16 an16 od17 an17 od18 an18 od19 an19 : Option Addr} {sl1 sl2 sl3 sl4 sl5 sl6 sl7 sl8 sl9 sl10 sl11 sl12 sl13 sl14 sl15 sl16 sl17 sl18 sl19 : Array (Option Value)} {oc1 kV1 dc1 pm1 cd1 ct1 oc2 kV2 dc2 pm2 cd2 ct2 oc3 kV3 dc3 pm3 cd3 ct3 oc4 kV4 dc4 pm4 cd4 ct4 oc5 kV5 dc5 pm5 cd5 ct5 oc6 kV6 dc6 pm6 cd6 ct6 oc7 kV7 dc7 pm7 cd7 ct7 oc8 kV8 dc8 pm8 cd8 ct8 oc9 kV9 dc9 pm9 cd9 ct9 oc10 kV10 dc10 pm10 cd10 ct10 oc11 kV11 dc11 pm11 cd11 ct11 oc12 kV12 dc12 pm12 cd12 ct12 oc13 kV13 dc13 pm13 cd13 ct13 oc14 kV14 dc14 pm14 cd14 ct14 oc15 kV15 dc15 pm15 cd15 ct15 oc16 kV16 dc16 pm16 cd16 ct16 oc17 kV17 dc17 pm17 cd17 ct17 oc18 kV18 dc18 pm18 cd18 ct18 oc19 kV19 dc19 pm19 cd19 ct19 : Value} {t1 t2 t3 t4 t5 : Tok}
    {C0 C1 C2 C3 C4 C5 C6 C7 C8 C9 C10 C11 C12 : Addr}
    {i0 u0 v0 N0 : Addr} {nm0 qn0 q0 msg0 file0 : Str} {bs0 bm0 sub0 : List Value} {sn0 : List Str} {ab0 : Bool} {col0 : Option Bool} {dd0 eod0 ean0 cld0 dld0 : Option Addr} {m0_0 m0_1 m0_2 m0_3 m0_5 : Option Value} {eoc0 edc0 epm0 ect0 cl0 dl0 : Value} {esl0 csl0 dsl0 : Array (Option Value)} {vs0 : Array Value} {tf0 : Tok} {p1_0 p2_0 a1_0 a2_0 a3_0 a4_0 a5_0 a6_0 q1_0 q2_0 q3_0 q4_0 : Pos} (X : K.In h) (G : h.Ns mainGlobals mg) (hfa : mg "law" = some (.ref fa))
    (a1 : PySem.W.nsIn K mainGlobals "_law_tank" = some (some (.ref f1)))
    (l1 : K.lookup f1 = some ⟨oc1, od1, .func (PySem.W.fnOf "_law_tank" "_law_tank" (defArgs s__law_tank) (defBody s__law_tank) (defScope s__law_tank) .none kV1 dc1 pm1 an1 cd1 ct1), sl1⟩)
    (c1 : PySem.W.codeIn K cd1 "_law_tank" = true)
    (k1 : PySem.W.keepIn K (.ref f1) = true)
    (a2 : PySem.W.nsIn K mainGlobals "_law_tap" = some (some (.ref f2)))
    (l2 : K.lookup f2 = some ⟨oc2, od2, .func (PySem.W.fnOf "_law_tap" "_law_tap" (defArgs s__law_tap) (defBody s__law_tap) (defScope s__law_tap) .none kV2 dc2 pm2 an2 cd2 ct2), sl2⟩)
    (c2 : PySem.W.codeIn K cd2 "_law_tap" = true)
    (k2 : PySem.W.keepIn K (.ref f2) = true)
    (a3 : PySem.W.nsIn K mainGlobals "is_integer" = some (some (.ref f3)))
    (l3 : K.lookup f3 = some ⟨oc3, od3, .func (PySem.W.fnOf "is_integer" "is_integer" (defArgs s_is_integer) (defBody s_is_integer) (defScope s_is_integer) .none kV3 dc3 pm3 an3 cd3 ct3), sl3⟩)
    (c3 : PySem.W.codeIn K cd3 "is_integer" = true)
    (k3 : PySem.W.keepIn K (.ref f3) = true)
    (a4 : PySem.W.nsIn K mainGlobals "is_natural" = some (some (.ref f4)))
    (l4 : K.lookup f4 = some ⟨oc4, od4, .func (PySem.W.fnOf "is_natural" "is_natural" (defArgs s_is_natural) (defBody s_is_natural) (defScope s_is_natural) .none kV4 dc4 pm4 an4 cd4 ct4), sl4⟩)
    (c4 : PySem.W.codeIn K cd4 "is_natural" = true)
    (k4 : PySem.W.keepIn K (.ref f4) = true)
    (a5 : PySem.W.nsIn K mainGlobals "is_band" = some (some (.ref f5)))
    (l5 : K.lookup f5 = some ⟨oc5, od5, .func (PySem.W.fnOf "is_band" "is_band" (defArgs s_is_band) (defBody s_is_band) (defScope s_is_band) .none kV5 dc5 pm5 an5 cd5 ct5), sl5⟩)
    (c5 : PySem.W.codeIn K cd5 "is_band" = true)
    (k5 : PySem.W.keepIn K (.ref f5) = true)
    (a6 : PySem.W.nsIn K mainGlobals "is_rate" = some (some (.ref f6)))
    (l6 : K.lookup f6 = some ⟨oc6, od6, .func (PySem.W.fnOf "is_rate" "is_rate" (defArgs s_is_rate) (defBody s_is_rate) (defScope s_is_rate) .none kV6 dc6 pm6 an6 cd6 ct6), sl6⟩)
    (c6 : PySem.W.codeIn K cd6 "is_rate" = true)
    (k6 : PySem.W.keepIn K (.ref f6) = true)
    (a7 : PySem.W.nsIn K mainGlobals "read_number" = some (some (.ref f7)))
    (l7 : K.lookup f7 = some ⟨oc7, od7, .func (PySem.W.fnOf "read_number" "read_number" (defArgs s_read_number) (defBody s_read_number) (defScope s_read_number) .none kV7 dc7 pm7 an7 cd7 ct7), sl7⟩)
    (c7 : PySem.W.codeIn K cd7 "read_number" = true)
    (k7 : PySem.W.keepIn K (.ref f7) = true)
    (a8 : PySem.W.nsIn K mainGlobals "read_natural" = some (some (.ref f8)))
    (l8 : K.lookup f8 = some ⟨oc8, od8, .func (PySem.W.fnOf "read_natural" "read_natural" (defArgs s_read_natural) (defBody s_read_natural) (defScope s_read_natural) .none kV8 dc8 pm8 an8 cd8 ct8), sl8⟩)
    (c8 : PySem.W.codeIn K cd8 "read_natural" = true)
    (k8 : PySem.W.keepIn K (.ref f8) = true)
    (a9 : PySem.W.nsIn K mainGlobals "read_band" = some (some (.ref f9)))
    (l9 : K.lookup f9 = some ⟨oc9, od9, .func (PySem.W.fnOf "read_band" "read_band" (defArgs s_read_band) (defBody s_read_band) (defScope s_read_band) .none kV9 dc9 pm9 an9 cd9 ct9), sl9⟩)
    (c9 : PySem.W.codeIn K cd9 "read_band" = true)
    (k9 : PySem.W.keepIn K (.ref f9) = true)
    (a10 : PySem.W.nsIn K mainGlobals "_read_stage" = some (some (.ref f10)))
    (l10 : K.lookup f10 = some ⟨oc10, od10, .func (PySem.W.fnOf "_read_stage" "_read_stage" (defArgs s__read_stage) (defBody s__read_stage) (defScope s__read_stage) .none kV10 dc10 pm10 an10 cd10 ct10), sl10⟩)
    (c10 : PySem.W.codeIn K cd10 "_read_stage" = true)
    (k10 : PySem.W.keepIn K (.ref f10) = true)
    (a11 : PySem.W.nsIn K mainGlobals "_read_rate" = some (some (.ref f11)))
    (l11 : K.lookup f11 = some ⟨oc11, od11, .func (PySem.W.fnOf "_read_rate" "_read_rate" (defArgs s__read_rate) (defBody s__read_rate) (defScope s__read_rate) .none kV11 dc11 pm11 an11 cd11 ct11), sl11⟩)
    (c11 : PySem.W.codeIn K cd11 "_read_rate" = true)
    (k11 : PySem.W.keepIn K (.ref f11) = true)
    (a12 : PySem.W.nsIn K mainGlobals "_read_look" = some (some (.ref f12)))
    (l12 : K.lookup f12 = some ⟨oc12, od12, .func (PySem.W.fnOf "_read_look" "_read_look" (defArgs s__read_look) (defBody s__read_look) (defScope s__read_look) .none kV12 dc12 pm12 an12 cd12 ct12), sl12⟩)
    (c12 : PySem.W.codeIn K cd12 "_read_look" = true)
    (k12 : PySem.W.keepIn K (.ref f12) = true)
    (a13 : PySem.W.nsIn K mainGlobals "dial_place" = some (some (.ref f13)))
    (l13 : K.lookup f13 = some ⟨oc13, od13, .func (PySem.W.fnOf "dial_place" "dial_place" (defArgs s_dial_place) (defBody s_dial_place) (defScope s_dial_place) .none kV13 dc13 pm13 an13 cd13 ct13), sl13⟩)
    (c13 : PySem.W.codeIn K cd13 "dial_place" = true)
    (k13 : PySem.W.keepIn K (.ref f13) = true)
    (a14 : PySem.W.nsIn K mainGlobals "_may_follow" = some (some (.ref f14)))
    (l14 : K.lookup f14 = some ⟨oc14, od14, .func (PySem.W.fnOf "_may_follow" "_may_follow" (defArgs s__may_follow) (defBody s__may_follow) (defScope s__may_follow) .none kV14 dc14 pm14 an14 cd14 ct14), sl14⟩)
    (c14 : PySem.W.codeIn K cd14 "_may_follow" = true)
    (k14 : PySem.W.keepIn K (.ref f14) = true)
    (a15 : PySem.W.nsIn K mainGlobals "_words_of" = some (some (.ref f15)))
    (l15 : K.lookup f15 = some ⟨oc15, od15, .func (PySem.W.fnOf "_words_of" "_words_of" (defArgs s__words_of) (defBody s__words_of) (defScope s__words_of) .none kV15 dc15 pm15 an15 cd15 ct15), sl15⟩)
    (c15 : PySem.W.codeIn K cd15 "_words_of" = true)
    (k15 : PySem.W.keepIn K (.ref f15) = true)
    (a16 : PySem.W.nsIn K mainGlobals "parse_receiver" = some (some (.ref f16)))
    (l16 : K.lookup f16 = some ⟨oc16, od16, .func (PySem.W.fnOf "parse_receiver" "parse_receiver" (defArgs s_parse_receiver) (defBody s_parse_receiver) (defScope s_parse_receiver) .none kV16 dc16 pm16 an16 cd16 ct16), sl16⟩)
    (c16 : PySem.W.codeIn K cd16 "parse_receiver" = true)
    (k16 : PySem.W.keepIn K (.ref f16) = true)
    (a17 : PySem.W.nsIn K mainGlobals "parse_looks" = some (some (.ref f17)))
    (l17 : K.lookup f17 = some ⟨oc17, od17, .func (PySem.W.fnOf "parse_looks" "parse_looks" (defArgs s_parse_looks) (defBody s_parse_looks) (defScope s_parse_looks) .none kV17 dc17 pm17 an17 cd17 ct17), sl17⟩)
    (c17 : PySem.W.codeIn K cd17 "parse_looks" = true)
    (k17 : PySem.W.keepIn K (.ref f17) = true)
    (a18 : PySem.W.nsIn K mainGlobals "_law_raised" = some (some (.ref f18)))
    (l18 : K.lookup f18 = some ⟨oc18, od18, .func (PySem.W.fnOf "_law_raised" "_law_raised" (defArgs s__law_raised) (defBody s__law_raised) (defScope s__law_raised) .none kV18 dc18 pm18 an18 cd18 ct18), sl18⟩)
    (c18 : PySem.W.codeIn K cd18 "_law_raised" = true)
    (k18 : PySem.W.keepIn K (.ref f18) = true)
    (a19 : PySem.W.nsIn K mainGlobals "law" = some (some (.ref f19)))
    (l19 : K.lookup f19 = some ⟨oc19, od19, .func (PySem.W.fnOf "law" "law" (defArgs s_law) (defBody s_law) (defScope s_law) .none kV19 dc19 pm19 an19 cd19 ct19), sl19⟩)
    (c19 : PySem.W.codeIn K cd19 "law" = true)
    (k19 : PySem.W.keepIn K (.ref f19) = true)
    (z1 : PySem.W.nsIn K mainGlobals "len" = some none)
    (z2 : PySem.W.nsIn K mainGlobals "max" = some none)
    (z3 : PySem.W.nsIn K mainGlobals "abs" = some none)
    (z4 : PySem.W.nsIn K mainGlobals "int" = some none)
    (z5 : PySem.W.nsIn K mainGlobals "range" = some none)
    (z6 : PySem.W.nsIn K mainGlobals "isinstance" = some none)
    (z7 : PySem.W.nsIn K mainGlobals "bool" = some none)
    (z8 : PySem.W.nsIn K mainGlobals "tuple" = some none)
    (z9 : PySem.W.nsIn K mainGlobals "str" = some none)
    (z10 : PySem.W.nsIn K mainGlobals "enumerate" = some none)
    (z11 : PySem.W.nsIn K mainGlobals "min" = some none)
    (z12 : PySem.W.nsIn K mainGlobals "repr" = some none)
    (z13 : PySem.W.nsIn K mainGlobals "super" = some none)
    (z14 : PySem.W.nsIn K mainGlobals "all" = some none)
    (z15 : PySem.W.nsIn K mainGlobals "ValueError" = some none)
    (y1 : PySem.W.nsIn K mainGlobals "DIGITS" = some (some (.str "0123456789" t1)))
    (y2 : PySem.W.nsIn K mainGlobals "MOST_DIGITS" = some (some (.int 30 t2)))
    (y3 : PySem.W.nsIn K mainGlobals "MOST_STAGES" = some (some (.int 8 t3)))
    (y4 : PySem.W.nsIn K mainGlobals "MOST_LOOKS" = some (some (.int 6 t4)))
    (y5 : PySem.W.nsIn K mainGlobals "LEAST_RATE" = some (some (.int 2 t5)))
    (g0 : PySem.W.nsIn K mainGlobals "InvalidSyntax" = some (some (.ref C0)))
    (w0 : PySem.W.keepIn K (.ref C0) = true)
    (eb0 : PySem.W.subIn K (.ref C0) (.type "BaseException") = some true)
    (ty0 : PySem.W.typeIn K (.ref C0) = some (.type "type"))
    (ga0 : PySem.W.findIn K (.ref C0) "__getattribute__" = some (some (.builtin "BaseException.__getattribute__")))
    (gg0 : PySem.W.findIn K (.ref C0) "__getattr__" = some none)
    (hd0 : PySem.W.hasDictIn K C0 = true)
    (xL0 : K.lookup C0 = some (excClassObj nm0 qn0 C0 N0 bs0 bm0 true sn0 sub0 ab0 col0 dd0 m0_0 m0_1 m0_2 m0_3 m0_5 "ValueError.__new__"))
    (rv0 : PySem.HandSPX.refsVE bm0 = true)
    (sa0 : PySem.W.findIn K (.ref C0) "__setattr__" = some (some (.builtin "object.__setattr__")))
    (no0 : PySem.W.findIn K (.ref C0) "word" = some none)
    (iC0 : PySem.W.findIn K (.ref C0) "__init__" = some (some (.ref i0)))
    (tC0 : PySem.W.typeIn K (.ref i0) = some (.type "function"))
    (ve0 : PySem.W.subIn K (.ref C0) (.type "ValueError") = some true)
    (me0 : PySem.W.mroIn K C0 (.ref C0) = some true)
    (te0 : PySem.W.exmOne K (.ref C0) (.ref C0) = some true)
    (su0 : PySem.W.ks_superIn K C0 C0 "__init__" = some (some (.builtin "ValueError.__init__")))
    (li0 : K.lookup i0 = some ⟨eoc0, eod0, .func (PySem.W.fnX "__init__" q0 (SupX.iA "word" p1_0 p2_0) (SupX.iB "word" msg0 a1_0 a2_0 a3_0 a4_0 a5_0 a6_0 q1_0 q2_0 q3_0 q4_0) (SupX.iS "word") [("__class__", u0)] .none .none edc0 epm0 ean0 (.ref v0) ect0), esl0⟩)
    (ci0 : PySem.W.codeIn K (.ref v0) q0 = true)
    (lu0 : K.lookup u0 = some ⟨cl0, cld0, .cell (some (.ref C0)), csl0⟩)
    (lv0 : K.lookup v0 = some ⟨dl0, dld0, .fields vs0, dsl0⟩)
    (vv0 : vs0[2]? = some (.str file0 tf0))
    (fi0 : ((P.main.file : Str) == file0) = true)
    (hl0 : (a3_0.endLine == a5_0.line) = true)
    (g1 : PySem.W.nsIn K mainGlobals "ToneError" = some (some (.ref C1)))
    (g2 : PySem.W.nsIn K mainGlobals "Impossible" = some (some (.ref C2)))
    (g3 : PySem.W.nsIn K mainGlobals "InvalidBand" = some (some (.ref C3)))
    (g4 : PySem.W.nsIn K mainGlobals "InvalidCommand" = some (some (.ref C4)))
    (g5 : PySem.W.nsIn K mainGlobals "InvalidDial" = some (some (.ref C5)))
    (g6 : PySem.W.nsIn K mainGlobals "InvalidLooks" = some (some (.ref C6)))
    (g7 : PySem.W.nsIn K mainGlobals "InvalidNumber" = some (some (.ref C7)))
    (g8 : PySem.W.nsIn K mainGlobals "InvalidReceiver" = some (some (.ref C8)))
    (g9 : PySem.W.nsIn K mainGlobals "InvalidSignal" = some (some (.ref C9)))
    (g10 : PySem.W.nsIn K mainGlobals "InvalidSignals" = some (some (.ref C10)))
    (g11 : PySem.W.nsIn K mainGlobals "InvalidTone" = some (some (.ref C11)))
    (g12 : PySem.W.nsIn K mainGlobals "NothingToUndo" = some (some (.ref C12)))
    (op : PySem.W.nsIn K cStatics "thirdparty.any" = some none)
    (tp : (P.main.scope.names.lookup ("super" : Str)).isSome = false)
    (eS : ExcC K C0)
    (xT : PySem.W.exmOne K (.ref C0) (.ref C1) = some true)
    (kA : PySem.W.kitAny K (.ref C0) [.ref C2, .ref C3, .ref C4, .ref C5, .ref C6, .ref C7] = some false)
    (kB : PySem.W.kitAny K (.ref C0) [.ref C8, .ref C9, .ref C10, .ref C11, .ref C12] = some false)
    (kS : PySem.W.kitOne K (.ref C0) (.ref C0) = some true)
    (kV : PySem.W.kitOne K (.ref C0) (.type "ValueError") = some true) :
    ∃ fd : FuncData, (∀ (s : Shared) (v : Value), BindsTo s fd ⟨[v], []⟩ [("script", v)]) ∧ ∀ base : Heap, K.In base → base.Ns mainGlobals mg → FnG P w K mg base CX0 8 fa fd ["script"] (spLaw K) := by
  have e := hfa.symm.trans (PySem.W.mg_of X G a19)
  cases e
  have m_len := PySem.W.mg_none_of X G z1
  have m_max := PySem.W.mg_none_of X G z2
  have m_abs := PySem.W.mg_none_of X G z3
  have m_int := PySem.W.mg_none_of X G z4
  have m_range := PySem.W.mg_none_of X G z5
  have m_isinstance := PySem.W.mg_none_of X G z6
  have m_bool := PySem.W.mg_none_of X G z7
  have m_tuple := PySem.W.mg_none_of X G z8
  have m_str := PySem.W.mg_none_of X G z9
  have m_enumerate := PySem.W.mg_none_of X G z10
  have m_min := PySem.W.mg_none_of X G z11
  have m_repr := PySem.W.mg_none_of X G z12
  have m_super := PySem.W.mg_none_of X G z13
  have m_all := PySem.W.mg_none_of X G z14
  have m_ValueError := PySem.W.mg_none_of X G z15
  have g_DIGITS := PySem.W.mg_of X G y1
  have g_MOST_DIGITS := PySem.W.mg_of X G y2
  have g_MOST_STAGES := PySem.W.mg_of X G y3
  have g_MOST_LOOKS := PySem.W.mg_of X G y4
  have g_LEAST_RATE := PySem.W.mg_of X G y5
  have g_InvalidSyntax := PySem.W.mg_of X G g0
  have T_InvalidSyntax : SupX.ErrTxt P K mg "InvalidSyntax" "word" C0 i0 := { okf := .inr rfl, gC := PySem.W.mg_of X G g0, cls := ⟨_, _, _, _, _, _, _, _, _, _, _, _, _, _, _, xL0, rv0⟩, sa := sa0, ga := ga0, gg := gg0, noN := no0, iC := iC0, tC := tC0, kC := w0, exC := eb0, veC := ve0, meC := me0, tyC := ty0, hdC := hd0, te := te0, sup := su0, op := op, gs := m_super, top := tp, fn := ⟨_, _, _, _, _, _, .none, _, _, _, _, _, _, _, _, _, _, _, _, _, _, _, _, _, _, _, _, _, _, _, _, _, _, li0, ci0, lu0, lv0, vv0, fi0, hl0⟩ }
  have g_ToneError := PySem.W.mg_of X G g1
  have g_Impossible := PySem.W.mg_of X G g2
  have g_InvalidBand := PySem.W.mg_of X G g3
  have g_InvalidCommand := PySem.W.mg_of X G g4
  have g_InvalidDial := PySem.W.mg_of X G g5
  have g_InvalidLooks := PySem.W.mg_of X G g6
  have g_InvalidNumber := PySem.W.mg_of X G g7
  have g_InvalidReceiver := PySem.W.mg_of X G g8
  have g_InvalidSignal := PySem.W.mg_of X G g9
  have g_InvalidSignals := PySem.W.mg_of X G g10
  have g_InvalidTone := PySem.W.mg_of X G g11
  have g_NothingToUndo := PySem.W.mg_of X G g12
  refine ⟨PySem.W.fnOf "law" "law" (defArgs s_law) (defBody s_law) (defScope s_law) .none kV19 dc19 pm19 an19 cd19 ct19, fun s v => .of_eq rfl, fun base _ _ => ?_⟩
  have F1 := fun_mk (st := s__law_tank) l1 c1 k1
  have h__law_tank : Has P w K mg base 1 "_law_tank" (spJar K) := ⟨f1, _, ["script", "at"], ok_tank (P := P) (w := w) (mg := mg) (base := base) F1 (m_len := m_len) (m_max := m_max) (m_abs := m_abs) (m_int := m_int), PySem.W.mg_of X G a1, k1, F1.binds (ps := ["script", "at"]) fun _ _ _ _ _ _ us hl => match us, hl with | [_, _], _ => rfl⟩
  have F2 := fun_mk (st := s__law_tap) l2 c2 k2
  have h__law_tap : Has P w K mg base 1 "_law_tap" spPick := ⟨f2, _, ["tank", "many"], ok_tap (P := P) (w := w) (mg := mg) (base := base) F2 (m_int := m_int), PySem.W.mg_of X G a2, k2, F2.binds (ps := ["tank", "many"]) fun _ _ _ _ _ _ us hl => match us, hl with | [_, _], _ => rfl⟩
  have F3 := fun_mk (st := s_is_integer) l3 c3 k3
  have h_is_integer : Has P w K mg base 1 "is_integer" (spLook isInt) := ⟨f3, _, ["value"], ok_is_integer (P := P) (w := w) (mg := mg) (base := base) F3 (m_isinstance := m_isinstance) (m_int := m_int) (m_bool := m_bool), PySem.W.mg_of X G a3, k3, F3.binds (ps := ["value"]) fun _ _ _ _ _ _ us hl => match us, hl with | [_], _ => rfl⟩
  have F4 := fun_mk (st := s_is_natural) l4 c4 k4
  have h_is_natural : Has P w K mg base 2 "is_natural" (spLook isNat) := ⟨f4, _, ["value"], ok_is_natural (P := P) (w := w) (mg := mg) (base := base) F4 (h_is_integer := h_is_integer), PySem.W.mg_of X G a4, k4, F4.binds (ps := ["value"]) fun _ _ _ _ _ _ us hl => match us, hl with | [_], _ => rfl⟩
  have F5 := fun_mk (st := s_is_band) l5 c5 k5
  have h_is_band : Has P w K mg base 3 "is_band" (spLook isBand) := ⟨f5, _, ["value"], ok_is_band (P := P) (w := w) (mg := mg) (base := base) F5 (m_isinstance := m_isinstance) (m_tuple := m_tuple) (m_len := m_len) (h_is_natural := h_is_natural), PySem.W.mg_of X G a5, k5, F5.binds (ps := ["value"]) fun _ _ _ _ _ _ us hl => match us, hl with | [_], _ => rfl⟩
  have F6 := fun_mk (st := s_is_rate) l6 c6 k6
  have h_is_rate : Has P w K mg base 2 "is_rate" (spLook isRate) := ⟨f6, _, ["value"], ok_is_rate (P := P) (w := w) (mg := mg) (base := base) F6 (g_LEAST_RATE := g_LEAST_RATE) (h_is_integer := h_is_integer), PySem.W.mg_of X G a6, k6, F6.binds (ps := ["value"]) fun _ _ _ _ _ _ us hl => match us, hl with | [_], _ => rfl⟩
  have F7 := fun_mk (st := s_read_number) l7 c7 k7
  have h_read_number : Has P w K mg base 1 "read_number" (spNum readN) := ⟨f7, _, ["word"], ok_read_number (P := P) (w := w) (mg := mg) (base := base) F7 (m_len := m_len) (m_all := m_all) (m_int := m_int) (g_DIGITS := g_DIGITS) (g_MOST_DIGITS := g_MOST_DIGITS), PySem.W.mg_of X G a7, k7, F7.binds (ps := ["word"]) fun _ _ _ _ _ _ us hl => match us, hl with | [_], _ => rfl⟩
  have F8 := fun_mk (st := s_read_natural) l8 c8 k8
  have h_read_natural : Has P w K mg base 2 "read_natural" (spNum natN) := ⟨f8, _, ["word"], ok_read_natural (P := P) (w := w) (mg := mg) (base := base) F8 (h_read_number := h_read_number), PySem.W.mg_of X G a8, k8, F8.binds (ps := ["word"]) fun _ _ _ _ _ _ us hl => match us, hl with | [_], _ => rfl⟩
  have F9 := fun_mk (st := s_read_band) l9 c9 k9
  have h_read_band : Has P w K mg base 4 "read_band" spBandN := ⟨f9, _, ["word"], ok_read_band (P := P) (w := w) (mg := mg) (base := base) F9 (h_read_natural := h_read_natural) (h_is_band := h_is_band), PySem.W.mg_of X G a9, k9, F9.binds (ps := ["word"]) fun _ _ _ _ _ _ us hl => match us, hl with | [_], _ => rfl⟩
  have F10 := fun_mk (st := s__read_stage) l10 c10 k10
  have h__read_stage : Has P w K mg base 5 "_read_stage" spStgN := ⟨f10, _, ["word"], ok_read_stage (P := P) (w := w) (mg := mg) (base := base) F10 (h_read_number := h_read_number) (h_read_natural := h_read_natural) (h_read_band := h_read_band), PySem.W.mg_of X G a10, k10, F10.binds (ps := ["word"]) fun _ _ _ _ _ _ us hl => match us, hl with | [_], _ => rfl⟩
  have F11 := fun_mk (st := s__read_rate) l11 c11 k11
  have h__read_rate : Has P w K mg base 3 "_read_rate" (spNum rateN) := ⟨f11, _, ["word"], ok_read_rate (P := P) (w := w) (mg := mg) (base := base) F11 (h_read_natural := h_read_natural) (h_is_rate := h_is_rate), PySem.W.mg_of X G a11, k11, F11.binds (ps := ["word"]) fun _ _ _ _ _ _ us hl => match us, hl with | [_], _ => rfl⟩
  have F12 := fun_mk (st := s__read_look) l12 c12 k12
  have h__read_look : Has P w K mg base 5 "_read_look" spLkN := ⟨f12, _, ["word"], ok_read_look (P := P) (w := w) (mg := mg) (base := base) F12 (h_read_number := h_read_number) (h_read_band := h_read_band), PySem.W.mg_of X G a12, k12, F12.binds (ps := ["word"]) fun _ _ _ _ _ _ us hl => match us, hl with | [_], _ => rfl⟩
  have F13 := fun_mk (st := s_dial_place) l13 c13 k13
  have h_dial_place : Has P w K mg base 1 "dial_place" spDialAt := ⟨f13, _, ["stages"], ok_dial_place (P := P) (w := w) (mg := mg) (base := base) F13 (m_enumerate := m_enumerate), PySem.W.mg_of X G a13, k13, F13.binds (ps := ["stages"]) fun _ _ _ _ _ _ us hl => match us, hl with | [_], _ => rfl⟩
  have F14 := fun_mk (st := s__may_follow) l14 c14 k14
  have h__may_follow : Has P w K mg base 2 "_may_follow" spMayF := ⟨f14, _, ["stages", "stage"], ok_may_follow (P := P) (w := w) (mg := mg) (base := base) F14 (m_len := m_len) (g_MOST_STAGES := g_MOST_STAGES) (h_dial_place := h_dial_place), PySem.W.mg_of X G a14, k14, F14.binds (ps := ["stages", "stage"]) fun _ _ _ _ _ _ us hl => match us, hl with | [_, _], _ => rfl⟩
  have F15 := fun_mk (st := s__words_of) l15 c15 k15
  have h__words_of : HasX P w K mg base 1 "_words_of" (spWords C0) := ⟨f15, _, ["text"], ok_words_of (P := P) (w := w) (mg := mg) (base := base) F15 (T_InvalidSyntax := T_InvalidSyntax) (m_isinstance := m_isinstance) (m_str := m_str), PySem.W.mg_of X G a15, k15, F15.binds (ps := ["text"]) fun _ _ _ _ _ _ us hl => match us, hl with | [_], _ => rfl⟩
  have F16 := fun_mk (st := s_parse_receiver) l16 c16 k16
  have h_parse_receiver : HasX P w K mg base 6 "parse_receiver" (spParR C0) := ⟨f16, _, ["text"], ok_parse_receiver (P := P) (w := w) (mg := mg) (base := base) F16 (T_InvalidSyntax := T_InvalidSyntax) (m_enumerate := m_enumerate) (h__words_of := h__words_of) (h__read_stage := h__read_stage) (h__may_follow := h__may_follow) (h__read_rate := h__read_rate), PySem.W.mg_of X G a16, k16, F16.binds (ps := ["text"]) fun _ _ _ _ _ _ us hl => match us, hl with | [_], _ => rfl⟩
  have F17 := fun_mk (st := s_parse_looks) l17 c17 k17
  have h_parse_looks : HasX P w K mg base 6 "parse_looks" (spParL C0) := ⟨f17, _, ["text"], ok_parse_looks (P := P) (w := w) (mg := mg) (base := base) F17 (T_InvalidSyntax := T_InvalidSyntax) (m_enumerate := m_enumerate) (m_len := m_len) (g_MOST_LOOKS := g_MOST_LOOKS) (h__words_of := h__words_of) (h__read_look := h__read_look), PySem.W.mg_of X G a17, k17, F17.binds (ps := ["text"]) fun _ _ _ _ _ _ us hl => match us, hl with | [_], _ => rfl⟩
  have F18 := fun_mk (st := s__law_raised) l18 c18 k18
  have h__law_raised : HasG P w K mg base 7 "_law_raised" spRaised := ⟨f18, _, ["kind", "thing"], ok_law_raised (P := P) (w := w) (mg := mg) (base := base) F18 (T_InvalidSyntax := T_InvalidSyntax) (g_InvalidSyntax := g_InvalidSyntax) (g_ToneError := g_ToneError) (g_Impossible := g_Impossible) (g_InvalidBand := g_InvalidBand) (g_InvalidCommand := g_InvalidCommand) (g_InvalidDial := g_InvalidDial) (g_InvalidLooks := g_InvalidLooks) (g_InvalidNumber := g_InvalidNumber) (g_InvalidReceiver := g_InvalidReceiver) (g_InvalidSignal := g_InvalidSignal) (g_InvalidSignals := g_InvalidSignals) (g_InvalidTone := g_InvalidTone) (g_NothingToUndo := g_NothingToUndo) (m_isinstance := m_isinstance) (m_repr := m_repr) (m_ValueError := m_ValueError) (h_parse_receiver := h_parse_receiver) (h_parse_looks := h_parse_looks) (eS := eS) (xT := xT) (kA := kA) (kB := kB) (kS := kS) (kV := kV), PySem.W.mg_of X G a18, k18, F18.binds (ps := ["kind", "thing"]) fun _ _ _ _ _ _ us hl => match us, hl with | [_, _], _ => rfl⟩
  have F19 := fun_mk (st := s_law) l19 c19 k19
  exact ok_law (P := P) (w := w) (mg := mg) (base := base) F19 (m_range := m_range) (m_max := m_max) (m_min := m_min) (m_len := m_len) (m_int := m_int) (m_str := m_str) (h__law_tank := h__law_tank) (h__law_tap := h__law_tap) (h__law_raised := h__law_raised)
theorem walk {l : PySem.W.OpenLaw} {q : Program} {loose : List Str} {XP : (Str → Option Value) → Heap → Prop} {YP : World → Heap → Prop} {d : DefRec} {K : Params → PySem.W.Frag} (hn : l.most = some 63) (hdf : d.params.defaults = [])
    (hY : ∀ (w : World) (h : Heap), YP w h → (K w.params).In h)
    (F : ∀ (w : World) (mg : Str → Option Value) (fa : Addr) (h : Heap), (K w.params).In h → h.Ns mainGlobals mg → mg d.name = some (.ref fa) →
      ∃ fd : FuncData, (∀ (s : Shared) (u : Value), BindsTo s fd ⟨[u], []⟩ [("script", u)]) ∧ ∀ base : Heap, (K w.params).In base → base.Ns mainGlobals mg → FnG l.prog w (K w.params) mg base CX0 8 fa fd ["script"] (spLaw (K w.params))) :
    PySem.W.WalkO q loose XP YP l.row.toRowW d [] (fun f vs => PySem.call f vs) :=
  walk_G (n := 63) (k := 8) (x := "script") (sp := fun K => spLaw K) hn (by decide) hdf ⟨rfl, by decide, by decide⟩ hY F (fun _ _ a ns hl _ hS => ⟨a, ns, rfl, Nat.le_trans hl (by decide), hS, fun _ => rfl⟩)
end Kx

open PySem PySem.W PyProof.Rows
set_option maxRecDepth 100000 in
set_option maxHeartbeats 0 in
theorem PySem.Challenge.cw_imagetones_k50_errors_of_texts_holds : PySem.Challenge.rw_imagetones_k50_errors_of_texts.Holds := by
  w_on; o_law; k_head; (case hw => w_witness2)
  k_fill
  refine Kx.walk (l := PySem.Challenge.rw_imagetones_k50_errors_of_texts) rfl rfl (fun w h Y => PySem.W.kIn_of Y) ?F
  case F =>
    intro w mg fa h KX G hmg
    refine' Kx.all_mk KX G hmg ?hXa1 ?hXl1 ?hXc1 ?hXk1 ?hXa2 ?hXl2 ?hXc2 ?hXk2 ?hXa3 ?hXl3 ?hXc3 ?hXk3 ?hXa4 ?hXl4 ?hXc4 ?hXk4 ?hXa5 ?hXl5 ?hXc5 ?hXk5 ?hXa6 ?hXl6 ?hXc6 ?hXk6 ?hXa7 ?hXl7 ?hXc7 ?hXk7 ?hXa8 ?hXl8 ?hXc8 ?hXk8 ?hXa9 ?hXl9 ?hXc9 ?hXk9 ?hXa10 ?hXl10 ?hXc10 ?hXk10 ?hXa11 ?hXl11 ?hXc11 ?hXk11 ?hXa12 ?hXl12 ?hXc12 ?hXk12 ?hXa13 ?hXl13 ?hXc13 ?hXk13 ?hXa14 ?hXl14 ?hXc14 ?hXk14 ?hXa15 ?hXl15 ?hXc15 ?hXk15 ?hXa16 ?hXl16 ?hXc16 ?hXk16 ?hXa17 ?hXl17 ?hXc17 ?hXk17 ?hXa18 ?hXl18 ?hXc18 ?hXk18 ?hXa19 ?hXl19 ?hXc19 ?hXk19 ?hXz1 ?hXz2 ?hXz3 ?hXz4 ?hXz5 ?hXz6 ?hXz7 ?hXz8 ?hXz9 ?hXz10 ?hXz11 ?hXz12 ?hXz13 ?hXz14 ?hXz15 ?hXy1 ?hXy2 ?hXy3 ?hXy4 ?hXy5 ?hXg0 ?hXw0 ?hXeb0 ?hXty0 ?hXga0 ?hXgg0 ?hXhd0 ?hXxL0 ?hXrv0 ?hXsa0 ?hXno0 ?hXiC0 ?hXtC0 ?hXve0 ?hXme0 ?hXte0 ?hXsu0 ?hXli0 ?hXci0 ?hXlu0 ?hXlv0 ?hXvv0 ?hXfi0 ?hXhl0 ?hXg1 ?hXg2 ?hXg3 ?hXg4 ?hXg5 ?hXg6 ?hXg7 ?hXg8 ?hXg9 ?hXg10 ?hXg11 ?hXg12 ?hXop ?hXtp ?hXeS ?hXxT ?hXkA ?hXkB ?hXkS ?hXkV
    (case hXa1 => k_is)
    (case hXl1 => k_is)
    (case hXc1 => k_is)
    (case hXk1 => k_is)
    (case hXa2 => k_is)
    (case hXl2 => k_is)
    (case hXc2 => k_is)
    (case hXk2 => k_is)
    (case hXa3 => k_is)
    (case hXl3 => k_is)
    (case hXc3 => k_is)
    (case hXk3 => k_is)
    (case hXa4 => k_is)
    (case hXl4 => k_is)
    (case hXc4 => k_is)
    (case hXk4 => k_is)
    (case hXa5 => k_is)
    (case hXl5 => k_is)
    (case hXc5 => k_is)
    (case hXk5 => k_is)
    (case hXa6 => k_is)
    (case hXl6 => k_is)
    (case hXc6 => k_is)
    (case hXk6 => k_is)
    (case hXa7 => k_is)
    (case hXl7 => k_is)
    (case hXc7 => k_is)
    (case hXk7 => k_is)
    (case hXa8 => k_is)
    (case hXl8 => k_is)
    (case hXc8 => k_is)
    (case hXk8 => k_is)
    (case hXa9 => k_is)
    (case hXl9 => k_is)
    (case hXc9 => k_is)
    (case hXk9 => k_is)
    (case hXa10 => k_is)
    (case hXl10 => k_is)
    (case hXc10 => k_is)
    (case hXk10 => k_is)
    (case hXa11 => k_is)
    (case hXl11 => k_is)
    (case hXc11 => k_is)
    (case hXk11 => k_is)
    (case hXa12 => k_is)
    (case hXl12 => k_is)
    (case hXc12 => k_is)
    (case hXk12 => k_is)
    (case hXa13 => k_is)
    (case hXl13 => k_is)
    (case hXc13 => k_is)
    (case hXk13 => k_is)
    (case hXa14 => k_is)
    (case hXl14 => k_is)
    (case hXc14 => k_is)
    (case hXk14 => k_is)
    (case hXa15 => k_is)
    (case hXl15 => k_is)
    (case hXc15 => k_is)
    (case hXk15 => k_is)
    (case hXa16 => k_is)
    (case hXl16 => k_is)
    (case hXc16 => k_is)
    (case hXk16 => k_is)
    (case hXa17 => k_is)
    (case hXl17 => k_is)
    (case hXc17 => k_is)
    (case hXk17 => k_is)
    (case hXa18 => k_is)
    (case hXl18 => k_is)
    (case hXc18 => k_is)
    (case hXk18 => k_is)
    (case hXa19 => k_is)
    (case hXl19 => k_is)
    (case hXc19 => k_is)
    (case hXk19 => k_is)
    (case hXz1 => k_is)
    (case hXz2 => k_is)
    (case hXz3 => k_is)
    (case hXz4 => k_is)
    (case hXz5 => k_is)
    (case hXz6 => k_is)
    (case hXz7 => k_is)
    (case hXz8 => k_is)
    (case hXz9 => k_is)
    (case hXz10 => k_is)
    (case hXz11 => k_is)
    (case hXz12 => k_is)
    (case hXz13 => k_is)
    (case hXz14 => k_is)
    (case hXz15 => k_is)
    (case hXy1 => k_is)
    (case hXy2 => k_is)
    (case hXy3 => k_is)
    (case hXy4 => k_is)
    (case hXy5 => k_is)
    (case hXg0 => k_is)
    (case hXw0 => k_is)
    (case hXeb0 => k_is)
    (case hXty0 => k_is)
    (case hXga0 => k_is)
    (case hXgg0 => k_is)
    (case hXhd0 => k_is)
    (case hXxL0 => k_is)
    (case hXrv0 => first | rfl | decide +kernel)
    (case hXsa0 => k_is)
    (case hXno0 => k_is)
    (case hXiC0 => k_is)
    (case hXtC0 => k_is)
    (case hXve0 => k_is)
    (case hXme0 => k_is)
    (case hXte0 => kernel_rfl)
    (case hXsu0 => kernel_rfl)
    (case hXli0 => k_is)
    (case hXci0 => k_is)
    (case hXlu0 => k_is)
    (case hXlv0 => k_is)
    (case hXvv0 => rfl)
    (case hXfi0 => first | rfl | decide +kernel)
    (case hXhl0 => rfl)
    (case hXg1 => k_is)
    (case hXg2 => k_is)
    (case hXg3 => k_is)
    (case hXg4 => k_is)
    (case hXg5 => k_is)
    (case hXg6 => k_is)
    (case hXg7 => k_is)
    (case hXg8 => k_is)
    (case hXg9 => k_is)
    (case hXg10 => k_is)
    (case hXg11 => k_is)
    (case hXg12 => k_is)
    (case hXop => k_is)
    (case hXtp => first | rfl | decide +kernel)
    (case hXeS => exact ⟨by kernel_rfl, by kernel_rfl, by kernel_rfl, by kernel_rfl, by kernel_rfl, by kernel_rfl, by kernel_rfl, by kernel_rfl⟩)
    (case hXxT => kernel_rfl)
    (case hXkA => kernel_rfl)
    (case hXkB => kernel_rfl)
    (case hXkS => kernel_rfl)
    (case hXkV => kernel_rfl)
