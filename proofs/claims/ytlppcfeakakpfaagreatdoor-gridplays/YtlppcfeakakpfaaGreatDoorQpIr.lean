/- In, All: what they tell. In's closure: it tells a grid's contents, in order. In's closure tells a grid's contents, in order, each with a tree of the round's own: wip/grid/It, by wip/gen_seq2.py. All; Put, whatever is put. GridBack's plain part: entries that change places; the way from one grid to another. pick. GridBack: three grids and what is handed in. GridBack: what a grid tells is kept in a list of one's own. Fenced twins. GridBack: the list 'all' while its entries change places and a grid gets them. The document's grid, plain: a list of cells .. -/
import Derived.Test.YtlppcfeakakpfaaGreatDoorQpIg
import Derived.Test.YtlppcfeakakpfaaGreatDoorQpUp
import Derived.Deep.RegionHeld3
set_option maxHeartbeats 16000000
set_option maxRecDepth 20000
namespace Go.Proofs.YtlppcfeakakpfaaGreatDoor
open Go.RowKit Go.Maps Go.Sort Go.Lib Go.Shelf
attribute [local go_sem] Oper.semAt_some
section
variable {n:Nat} {P:Program} {md:Region.Mode} {ops:Array Oper} {Q:Exit→Act→World→Prop} {fuel:Nat} {listed:Array Bool} {a:Act} {w w':World}
theorem any_val {i:Nat} {o:Oper} {v:Value} (d:Option Tmp) (ho:ops[i]? = some o) (hd:o.dst=d) (hg:o.guard=none) (hab:o.about P w a.eval=none) (hpl:∀ c,o.op ≠ .defer c) (he:(execOp a.eval o).run P w=.ok (.value v) w')
  (h:wpAnyIn Fence.wide n P md ops Q fuel (listed.setIfInBounds i true) (a.put d v) w'):wpOpIn Fence.wide n P ops Q i (wpAnyIn Fence.wide n P md ops Q fuel (listed.setIfInBounds i true)) a w:=by
 subst hd
 refine wpOpIn_step ho fun K hK=>?_
 simp only [Region.wanted,hg,if_true]
 unfold Oper.wpIn
 refine ⟨by simp [hab],?_⟩
 rw [Oper.semAt_plain Fence.wide _ _ (fun c hc'=>hpl c hc'),he]
 exact hK _ _ h
theorem any_call {i:Nat} {o:Oper} {f:FuncId} {args:Array Value} (d:Option Tmp) (ho:ops[i]? = some o) (hd:o.dst=d) (hg:o.guard=none) (hn:1≤n) (hpl:∀ c,o.op ≠ .defer c) (he:(execOp a.eval o).run P w=.ok (.enter f args) w')
  (h:Calls P f args w' fun e w2=>∃ v,e=.returned v∧wpAnyIn Fence.wide n P md ops Q fuel (listed.setIfInBounds i true) (a.put d v) w2):wpOpIn Fence.wide n P ops Q i (wpAnyIn Fence.wide n P md ops Q fuel (listed.setIfInBounds i true)) a w:=by
 subst hd
 refine wpOpIn_step ho fun K hK=>?_
 simp only [Region.wanted,hg,if_true]
 unfold Oper.wpIn
 refine ⟨fun _ _=>trivial,?_⟩
 rw [Oper.semAt_plain Fence.wide _ _ (fun c hc'=>hpl c hc'),he]
 refine ⟨fun _=>hn,(callsIn_wide.2 h).mono ?_⟩
 rintro e w2 ⟨v,rfl,h2⟩
 exact hK _ _ h2
theorem any_round {i:Nat} {o:Oper} {l f:Nat} {tms:Array Value} {asg bod:Code} (d:Option Tmp) (ho:ops[i]? = some o) (hd:o.dst=d) (hg:o.guard=none) (hn:1≤n) (hpl:∀ c,o.op ≠ .defer c) (he:(execOp a.eval o).run P w=.ok (.round l f tms asg bod) w')
  (h:RoundIn Fence.wide (n - 1) P l f tms asg bod w' fun e w2=>∃ v,e=.returned v∧wpAnyIn Fence.wide n P md ops Q fuel (listed.setIfInBounds i true) (a.put d v) w2):wpOpIn Fence.wide n P ops Q i (wpAnyIn Fence.wide n P md ops Q fuel (listed.setIfInBounds i true)) a w:=by
 subst hd
 refine wpOpIn_step ho fun K hK=>?_
 simp only [Region.wanted,hg,if_true]
 unfold Oper.wpIn
 refine ⟨fun _ _=>trivial,?_⟩
 rw [Oper.semAt_plain Fence.wide _ _ (fun c hc'=>hpl c hc'),he]
 refine ⟨fun _=>hn,h.mono ?_⟩
 rintro e w2 ⟨v,rfl,h2⟩
 exact hK _ _ h2
end
end Go.Proofs.YtlppcfeakakpfaaGreatDoor
namespace Go.Proofs.YtlppcfeakakpfaaGreatDoor
open Go.RowKit Go.Maps Go.Sort Go.Lib Go.Shelf
attribute [local go_sem] Oper.semAt_some
theorem loadIn_put {F:Fence} {n:Nat} {ops:Array Oper} {rest:List Oper} {o:Oper} {a:Act} {w:World} {Q:Exit→Act→World→Prop} (hgd:Region.wanted o (yielded ops a.tmps)=true) (x:Operand) (ho:o.op=.load 84 x) (b p:Nat) (hx:a.eval x=.pointer (some ⟨b,p,none⟩)) (cs:List Value) (hc:w.rangeAt b p cs) (hcs:cs.length=23)
  (h:wpListIn F n Tryz.prog ops Q rest (a.put o.dst (.agg cs.toArray)) w):wpListIn F n Tryz.prog ops Q (o :: rest) a w:=by
 refine wpInV hgd (by simp [Oper.about,ho]) (fun c hc'=>by rw [ho] at hc';cases hc') ?_ h
 unfold execOp
 simp only [ho,hx,Instr.loadAt,Instr.sureAddr,Sem.run_bind,Sem.run_pure,Result.andThen_ok,run_loadVar_mid w b p 84 cs _ hc Tryz.underlying84 rfl (by rw [hcs];exact infoPut)]
theorem storeIn_new' {F:Fence} {n:Nat} {ops:Array Oper} {rest:List Oper} {o:Oper} {a:Act} {Q:Exit→Act→World→Prop} (hgd:Region.wanted o (yielded ops a.tmps)=true) (ty:TypeId) (x y:Operand) (ho:o.op=.store ty x y) (w:World) (z cells:Array Value) (N:Nat) (hN:N=w.heap.size) (hx:a.eval x=.pointer (some ⟨N,0,none⟩)) (hy:a.eval y=.agg cells)
  (hz:z.size=cells.size) (hi:(Tryz.prog.info? ty).map (·.size)=some cells.size) (h1:cells.all (·.oneCell')=true)
  (h:wpListIn F n Tryz.prog ops Q rest (a.put o.dst undef) (w.alloc (.cells cells ty))):wpListIn F n Tryz.prog ops Q (o :: rest) a (w.alloc (.cells z ty)):=by
 subst hN
 have ht:(w.alloc (.cells z ty)).there w.heap.size 0 cells.size:=by
  intro j hj
  constructor
  ·rw [World.cell?_alloc_at _ _ _ _ rfl,Array.getElem?_eq_getElem (by omega)];rfl
  ·rw [frozen?_alloc_cells,frozen_new]
 have hs:=run_storeVar_mid (P:=Tryz.prog) (w.alloc (.cells z ty)) w.heap.size 0 ty cells ht hi h1
 refine wpInS hgd (by simp [Oper.about,ho]) (fun c hc'=>by rw [ho] at hc';cases hc') ?_ h
 unfold execOp
 simp only [ho,hx,hy,Instr.storeAt,Instr.sureAddr,Sem.run_bind,Sem.run_pure,Result.andThen_ok,hs]
 rw [setCells_new w ty z cells hz]
theorem same_in_order {K K':List Cc} (h:Strict (K.map (·.1))) (h':Strict (K'.map (·.1))) (hm:∀ x,x∈K ↔ x∈K'):K=K':=
 sorted_same (lt:=fun x y:Cc=>ltOf cfA x.1 y.1) (fun x=>swoA.irrefl x.1) (fun x y z=>swoA.trans x.1 y.1 z.1) (List.pairwise_map.1 h) (List.pairwise_map.1 h') hm
abbrev encP (x:Cc×Value):Array Value:=#[.agg #[.int .i64 x.1.1.1,.int .i64 x.1.1.2],.agg (x.1.2.cells x.2).toArray]
theorem regIn_noPanic {F:Fence} {n:Nat} {P:Program} {id:Nat} {ops:Array Oper} {b:Bool} {Q:Exit→Act→World→Prop} {a:Act} {w:World} (h:(Code.region id ops b).wpIn F n P (NoPanic Q) a w):(Code.region id ops b).wpIn F n P Q a w:=
 wpIn_mono h NoPanic.imp
theorem any_take {n:Nat} {P:Program} {md:Region.Mode} {ops:Array Oper} {Q:Exit→Act→World→Prop} {fuel:Nat} {listed:Array Bool} {a:Act} {w:World} {i:Nat} {oi:Oper} (v:Value) (d:Option Tmp) (hi:ops[i]? = some oi) (hd:oi.dst=d) (hs:Region.noSelect ops=true) (hf:Region.free md ops listed i=true) (hr:(Region.ready md ops listed).contains i=true)
  (hQ:∀ c a w,Q (.panic c) (a.put d v) w→Q (.panic c) a w) (hw:Region.wanted oi (yielded ops a.tmps)=true) (hab:∀ w,oi.about P w a.eval=none) (hy:∀ w,(execOp a.eval oi).run P w=.ok (.value v) w)
  (h:wpAnyIn Fence.wide n P md ops Q fuel (listed.setIfInBounds i true) (a.put d v) w):wpAnyIn Fence.wide n P md ops Q (fuel+1) listed a w:=by
 subst hd
 exact wpAnyIn_take rfl hi hs hf hr hQ ⟨.inl ⟨hw,hy⟩,hab⟩ h
theorem exec_load_row {o:Oper} {ρ:Operand→Value} {w:World} (ty:TypeId) (x:Operand) (ho:o.op=.load ty x) (b p:Nat) (hx:ρ x=.pointer (some ⟨b,p,none⟩)) (cs:List Value) (d:TypeDesc) (hc:w.rangeAt b p cs) (hu:Tryz.prog.underlying ty=some d) (hd:d.isRow=true) (hi:(Tryz.prog.info? ty).map (·.size)=some cs.length) :
  (execOp ρ o).run Tryz.prog w=.ok (.value (.agg cs.toArray)) w:=by
 unfold execOp
 simp only [ho,hx,Instr.loadAt,Instr.sureAddr,Sem.run_bind,Sem.run_pure,Result.andThen_ok,run_loadVar_mid w b p ty cs d hc hu hd hi]
end Go.Proofs.YtlppcfeakakpfaaGreatDoor
namespace Go.Proofs.YtlppcfeakakpfaaGreatDoor
open Go.RowKit Go.Maps Go.Sort Go.Lib Go.Shelf
attribute [local go_sem] Oper.semAt_some
abbrev encQ (x:(Cc×Value)×List Nat):Array Value:=encP x.1
abbrev wtQ (x:(Cc×Value)×List Nat):Nat→Prop:=fun i=>i∈x.2
def TellQ (w:World) (K:List Cc) (k:Nat) (x:(Cc×Value)×List Nat) (Z:Nat→Prop) (W:World):Prop:=K[k]? = some x.1.1∧NdOwn W x.1.2 x.1.1.2.t x.2∧x.2.Nodup∧∀ i∈x.2,w.heap.size+2≤i ∧ ¬ Z i
end Go.Proofs.YtlppcfeakakpfaaGreatDoor
namespace Go.Proofs.YtlppcfeakakpfaaGreatDoor
open Go.RowKit Go.Maps Go.Sort Go.Lib
theorem in_at (g:Nat) (w:World):Calls Tryz.prog 25 #[.pointer (some ⟨g,0,none⟩),.agg #[.int .i64 1,.int .i64 1,.int .i64 256,.int .i64 4096]] w fun e w'=>∃ x0 x1,e=.returned (.func (.func 47) #[] #[.pointer (some ⟨x0,0,none⟩),.pointer (some ⟨x1,0,none⟩)])∧Blk w' x0 [.pointer (some ⟨g,0,none⟩)] 25∧Blk w' x1 [.int .i64 1,.int .i64 1,.int .i64 256,.int .i64 4096] 48∧Kp w w' Nul:=by
 obtain ⟨W,hW⟩:∃ W,(w.alloc (.cells #[.pointer (some ⟨g,0,none⟩)] 25)).alloc (.cells #[.int .i64 1,.int .i64 1,.int .i64 256,.int .i64 4096] 48)=W:=⟨_,rfl⟩
 have HW:Hid ((w.alloc (.cells #[.pointer (some ⟨g,0,none⟩)] 25)).alloc (.cells #[.int .i64 1,.int .i64 1,.int .i64 256,.int .i64 4096] 48)=W):=hW
 have HK:Hid (Kp w W Nul):=by show Kp w W Nul;rw [← hW];exact ((Kp.refl w Nul).alloc _).alloc _
 have HB0:Hid (Blk W w.heap.size [.pointer (some ⟨g,0,none⟩)] 25):=by show Blk _ _ _ _;rw [← hW];exact (Blk.new w [.pointer (some ⟨g,0,none⟩)] _).alloc _
 have HB1:Hid (Blk W (w.heap.size+1) [.int .i64 1,.int .i64 1,.int .i64 256,.int .i64 4096] 48):=by
  have:=Blk.new (w.alloc (.cells #[.pointer (some ⟨g,0,none⟩)] 25)) [.int .i64 1,.int .i64 1,.int .i64 256,.int .i64 4096] 48
  rw [World.size_alloc] at this
  show Blk _ _ _ _
  rw [← hW];exact this
 clear hW
 go_enter Tryz.func25,Tryz.ntmps25
 go_wp2_with fail
 rw [HW.out]
 go_ret
 exact ⟨_,_,rfl,HB0.out,HB1.out,HK.out⟩
theorem all_at (g:Nat) (w:World):Calls Tryz.prog 9 #[.pointer (some ⟨g,0,none⟩)] w fun e w'=>∃ x0 x1,e=.returned (.func (.func 47) #[] #[.pointer (some ⟨x0,0,none⟩),.pointer (some ⟨x1,0,none⟩)])∧Blk w' x0 [.pointer (some ⟨g,0,none⟩)] 25∧Blk w' x1 [.int .i64 1,.int .i64 1,.int .i64 256,.int .i64 4096] 48∧Kp w w' Nul:=by
 have H:Hid (Calls Tryz.prog 25 #[.pointer (some ⟨g,0,none⟩),.agg #[.int .i64 1,.int .i64 1,.int .i64 256,.int .i64 4096]] w fun e w'=>∃ x0 x1,e=.returned (.func (.func 47) #[] #[.pointer (some ⟨x0,0,none⟩),.pointer (some ⟨x1,0,none⟩)])∧Blk w' x0 [.pointer (some ⟨g,0,none⟩)] 25∧Blk w' x1 [.int .i64 1,.int .i64 1,.int .i64 256,.int .i64 4096] 48∧Kp w w' Nul):=in_at g w
 go_enter Tryz.func9,Tryz.ntmps9
 go_wp2_with fail
 refine H.out.mono ?_
 rintro e w1 ⟨x0,x1,rfl,h1,h2,h3⟩
 have HE:Hid (Blk w1 x0 [.pointer (some ⟨g,0,none⟩)] 25∧Blk w1 x1 [.int .i64 1,.int .i64 1,.int .i64 256,.int .i64 4096] 48∧Kp w w1 Nul):=⟨h1,h2,h3⟩
 clear h1 h2 h3 H
 go_wp2_with fail
 go_ret
 exact ⟨_,_,rfl,HE.out⟩
structure Ok17 (L:List Cc):Prop where
 gd:∀ x∈L,Gd x.2
 at':∀ x∈L,vC x.1.1 x.1.2=true
 len:L.length≤4096
theorem Ok17.nil:Ok17 []:=⟨fun x h=>by simp at h,fun x h=>by simp at h,by simp⟩
theorem Ok17.okC {L:List Cc} (h:Ok17 L):OkC L:=fun x hx=>⟨(h.gd x hx).x,(h.gd x hx).ok⟩
theorem Ok17.put {L:List Cc} (h:Ok17 L) (ho:L.Pairwise (fun x y=>x.1≠y.1)) {c r:Int} {ct:Ct} (hx:vC c r=true) (hg:Gd ct) (hroom:L.length < 4096∨∃ c',((c,r),c')∈L):Ok17 (putL L (c,r) ct):=by
 refine ⟨fun x hx'=>?_,fun x hx'=>?_,?_⟩
 ·rcases (putL_mem x).1 hx' with rfl|h1
  ·exact hg
  ·exact h.gd x h1.1
 ·rcases (putL_mem x).1 hx' with rfl|h1
  ·exact hx
  ·exact h.at' x h1.1
 ·by_cases hin:∃ c',((c,r),c')∈L
  ·rw [putL_in ho hin];exact h.len
  ·have hno:∀ c',((c,r),c') ∉ L:=fun c' q=>hin ⟨c',q⟩
   rw [putL_out hno]
   rcases hroom with h1|h1
   ·omega
   ·exact absurd h1 hin
theorem Ok17.del {L:List Cc} (h:Ok17 L) (k:Int×Int):Ok17 (delL L k):=
 ⟨fun x hx=>h.gd x ((delL_mem x).1 hx).1,fun x hx=>h.at' x ((delL_mem x).1 hx).1,Nat.le_trans (List.length_filter_le _ _) h.len⟩
end Go.Proofs.YtlppcfeakakpfaaGreatDoor
namespace Go.Proofs.YtlppcfeakakpfaaGreatDoor
open Go.RowKit Go.Maps Go.Sort Go.Lib
def pkf (c m:Int):Nat:=if c < 0 then ((-(c+1)) % m).toNat else (c % m).toNat
theorem pkf_val (c m:Int) (h1:1≤m):(pkf c m:Int)=(if c < 0 then (-(c+1)) % m else c % m)∧(pkf c m:Int) < m:=by
 have hm0:m≠0:=by omega
 unfold pkf
 by_cases h:c < 0
 ·have e1:=Int.emod_nonneg (-(c+1)) hm0
  have e2:=Int.emod_lt_of_pos (-(c+1)) (b:=m) (by omega)
  rw [if_pos h,if_pos h];omega
 ·have e1:=Int.emod_nonneg c hm0
  have e2:=Int.emod_lt_of_pos c (b:=m) (by omega)
  rw [if_neg h,if_neg h];omega
theorem pick_n (c m:Int) (hc:I64 c) (h1:1≤m) (w:World):Calls Tryz.prog 17 #[.int .i64 c,.int .i64 m] w fun e w'=>e=.returned (.int .i64 (pkf c m))∧w'=w:=by
 have HC:Hid (-9223372036854775808≤c∧c≤9223372036854775807):=by unfold I64 at hc;exact hc
 have hm0:m≠0:=by omega
 have hv:=(pkf_val c m h1).1
 generalize pkf c m=p at *
 clear hc
 by_cases h:c < 0
 ·rw [if_pos h] at hv
  have hX:wrap64 (-wrap64 (c+1))=-(c+1):=by have:=HC.out;unfold wrap64;omega
  have hY:(-(c+1)).tmod m=(-(c+1)) % m:=Int.tmod_eq_emod_of_nonneg (by omega)
  have HX:Hid (wrap64 (-wrap64 (c+1))=-(c+1)):=hX
  have HE:Hid ((-(c+1)).tmod m=(p:Int)):=by show _=_;rw [hY,hv]
  clear hX hY hv
  go_enter Tryz.func17,Tryz.ntmps17
  go_wp2
  go_ret
  refine ⟨rInt ?_,rfl⟩
  first
  | exact HE.out
  | (rw [HX.out];exact HE.out)
 ·rw [if_neg h] at hv
  have hY:c.tmod m=c % m:=Int.tmod_eq_emod_of_nonneg (by omega)
  have HE:Hid (c.tmod m=(p:Int)):=by show _=_;rw [hY,hv]
  have HE2:Hid (c % m=(p:Int)):=hv.symm
  clear hY hv
  go_enter Tryz.func17,Tryz.ntmps17
  go_wp2
  go_ret
  refine ⟨rInt ?_,rfl⟩
  first
  | exact HE.out
  | exact HE2.out
section
variable {α:Type}
end
end Go.Proofs.YtlppcfeakakpfaaGreatDoor
namespace Go.Proofs.YtlppcfeakakpfaaGreatDoor
open Go.RowKit Go.Maps Go.Sort Go.Lib
def FA:Nat→Prop:=fun i=>0≤i
theorem apart_new {W':World} {g g':Nat} (hne:g≠g') (hn:Blk W' g [.map none] 68):Apart W' g g':=
 ⟨hne,fun m hm=>by
  unfold Blk at hn
  rw [hn] at hm
  simp at hm⟩
theorem pt_parts {w:World} {b o:Nat} {c s:Int} {a:Ct} {sa:Value} (h:w.rangeAt b o (ptCells ((c,s),a) sa)):w.rangeAt b o [.int .i64 c,.int .i64 s]∧w.rangeAt b (o+2) (a.cells sa):=by
 refine ⟨fun j v hj=>h j v ?_,fun j v hj=>?_⟩
 ·match j,hj with
  | 0,hj=>exact hj
  | 1,hj=>exact hj
 ·have:=h (2+j) v (by rw [Nat.add_comm 2 j];exact hj)
  rw [← Nat.add_assoc] at this
  exact this
end Go.Proofs.YtlppcfeakakpfaaGreatDoor
namespace Go.Proofs.YtlppcfeakakpfaaGreatDoor
open Go.RowKit Go.Maps Go.Sort Go.Lib Go.Shelf
theorem wpListIn_append_tell {F:Fence} {n:Nat} {P:Program} (w:World) {ops:Array Oper} {rest:List Oper} {o:Oper} {a:Act} {Q:Exit→Act→World→Prop}
  (hg:o.guard=none) (s x:Operand) (t:TypeId) (hop:o.op=Op.call { callee:=Callee.builtin Builtin.append,args:=#[s,x],argTypes:=#[t,t] })
  (base:Nat) (e:TypeId) (i:TypeInfo) (z:Value) (size bytes:Nat) (h1:P.underlying t=some (.slice e)) (h2:P.info? e=some i) (h3:i.zero=some z) (h4:i.size=size) (h5:i.bytes=bytes) (h6:z.cells.size=size) (h7:0 < size)
  (v:Value) (k:Nat) (xs:List Value) (hs:a.eval s=v) (hown:w.ownsRow base e size v k xs) (ad:Addr) (m c:Nat) (news:List Value) (hx:a.eval x=.slice (some ad) m c) (hn:news.length=m * size)
  (hc:∀ j u,news[j]? = some u→w.cell? (ad.add j)=some u) (h1c:∀ u∈news,u.oneCell'=true) (hm:0 < m) (b1:k+m≤maxLen) (b2:(k+m) * bytes≤140737488355328) (b3:base≤w.heap.size)
  (hK:∀ g c' w',w'.ownsRow base e size (.slice (some ⟨g,0,none⟩) (k+m) c') (k+m) (xs ++ news)→w.grownBy w' v.ownBlock→(v.ownBlock=some g∨w.heap.size≤g)→wpListIn F n P ops Q rest (a.put o.dst (.slice (some ⟨g,0,none⟩) (k+m) c')) w') :
  wpListIn F n P ops Q (o :: rest) a w:=by
 refine wpListIn_plain hg fun K hK'=>?_
 obtain ⟨g,c',w',hrun,r1,r2,r3⟩:=run_append_tell (P:=P) w base t o.type e i z size bytes h1 h2 h3 h4 h5 h6 h7 v k xs hown ad m c news hn hc h1c hm b1 b2 b3
 unfold Oper.wpIn
 refine ⟨?_,?_⟩
 ·simp [Oper.about,hop,resolve,Target.leads,Sem.run_pure]
 ·rw [Oper.semAt_plain F _ _ (by rw [hop];intro c hc';cases hc')]
  simp [execOp,hop,resolve,invoke,builtin,hs,hx,hrun,Result.andThen]
  exact hK' _ _ (hK g c' w' r1 r2 r3)
theorem storeIn_var {F:Fence} {n:Nat} {ops:Array Oper} {rest:List Oper} {o:Oper} {a:Act} {w:World} {Q:Exit→Act→World→Prop} (hgd:Region.wanted o (yielded ops a.tmps)=true) (ty:TypeId) (x y:Operand) (ho:o.op=.store ty x y)
  (b:Nat) (hx:a.eval x=.pointer (some ⟨b,0,none⟩)) (v:Value) (hy:a.eval y=v) (h1:v.oneCell'=true) (t:TypeId) (old:Value) (hb:Blk w b [old] t) (hi:(Tryz.prog.info? ty).map (·.size)=some 1)
  (h:∀ W,Blk W b [v] t→Kp w W (fun i=>i=b)→wpListIn F n Tryz.prog ops Q rest (a.put o.dst undef) W):wpListIn F n Tryz.prog ops Q (o :: rest) a w:=by
 subst hy
 refine wpInS hgd (by simp [Oper.about,ho]) (fun c hc'=>by rw [ho] at hc';cases hc') (w':=w.setRow b #[a.eval y]) ?_ (h _ (setRow_heap w b #[old] #[a.eval y] t (0,0) hb) ?_)
 ·unfold execOp
  simp only [ho,hx,Instr.storeAt,Instr.sureAddr,Sem.run_bind,Sem.run_pure,Result.andThen_ok,run_storeVar_one w b t ty old _ hb hi h1]
 ·refine ⟨rfl,rfl,rfl,?_,fun i _ hn=>?_⟩
  ·unfold World.setRow;simp
  ·unfold World.setRow
   simp only [Array.getElem?_modify]
   rw [if_neg (fun e=>hn e.symm)]
theorem GridIn.far {w w':World} {F S:Nat→Prop} {g:Nat} {L:List Cc} (h:GridIn w F g L) (k:Kp w w' S) (hS:∀ i,F i → ¬ S i):GridIn w' F g L:=by
 obtain ⟨hg,⟨hb,rfl⟩|⟨m,D,hb,hFm,hne,hown,hm⟩⟩:=h
 ·exact ⟨hg,.inl ⟨(k.block g (Array.getElem?_eq_some_iff.1 hb).1 (hS g hg)).trans hb,rfl⟩⟩
 ·exact ⟨hg,.inr ⟨m,D,(k.block g (Array.getElem?_eq_some_iff.1 hb).1 (hS g hg)).trans hb,hFm,hne,ownsMap_block hown (k.block m hown.lt (hS m hFm)),⟨hm.size,hm.rng,hm.keys,fun c r ct hc=>by obtain ⟨sl,e1,e2⟩:=hm.vals c r ct hc;exact ⟨sl,e1,e2.kp k (fun i hi=>hS i hi)⟩,hm.once⟩⟩⟩
theorem Apart.keeps {w w':World} {S:Nat→Prop} {g g':Nat} (ha:Apart w g g') (k:Kp w w' S) (hg:g < w.heap.size) (hg':g' < w.heap.size) (h1:¬ S g) (h2:¬ S g'):Apart w' g g':=
 ⟨ha.1,fun m q1 q2=>ha.2 m (by rw [← k.block g hg h1];exact q1) (by rw [← k.block g' hg' h2];exact q2)⟩
theorem Km.cells {g b:Nat} {W W':World} (k:Km g W W') {cs:Array Value} {t:TypeId} {f:Nat×Nat} (hb:W.heap[b]? = some (.cells cs t f)) (hne:b≠g):W'.heap[b]? = W.heap[b]?:=
 k.kp.block b (Array.getElem?_eq_some_iff.1 hb).1 (fun q=>by
  rcases q with q|q
  ·exact hne q
  ·exact q.2 _ _ _ hb)
structure Place (K:List Cc) (k:Int×Int) (lo:Nat):Prop where
 le:lo≤K.length
 lt:∀ j x,K[j]? = some x→j < lo→ltOf cfA x.1 k=true
 ge:∀ j x,K[j]? = some x→lo≤j→ltOf cfA x.1 k=false
def isK (K:List Cc) (lo:Nat) (k:Int×Int):Bool:=match K[lo]? with|none=>false|some x=>decide (x.1=k)
def insK (K:List Cc) (k:Int×Int) (lo:Nat) (mid:List Cc):List Cc:=K.take lo ++ (mid ++ K.drop (lo+(isK K lo k).toNat))
theorem strict_get {K:List Cc} (h:Strict (K.map (·.1))) {i j:Nat} {x y:Cc} (hx:K[i]? = some x) (hy:K[j]? = some y) (hij:i < j):ltOf cfA x.1 y.1=true:=by
 unfold Strict at h
 rw [List.pairwise_map,List.pairwise_iff_getElem] at h
 obtain ⟨hi,rfl⟩:=List.getElem?_eq_some_iff.1 hx
 obtain ⟨hj,rfl⟩:=List.getElem?_eq_some_iff.1 hy
 exact h i j hi hj hij
theorem Place.at_is {K:List Cc} {k:Int×Int} {lo:Nat} (p:Place K k lo) {j:Nat} {x:Cc} (hs:Strict (K.map (·.1))) (hx:K[j]? = some x) (e:x.1=k):j=lo:=by
 rcases Nat.lt_trichotomy j lo with h|h|h
 ·have:=p.lt j x hx h
  rw [e,cfA_irr] at this
  cases this
 ·exact h
 ·have hl:lo < K.length:=Nat.lt_trans h (List.getElem?_eq_some_iff.1 hx).1
  have hy:K[lo]? = some K[lo]:=List.getElem?_eq_getElem hl
  have h1:=p.ge lo _ hy (Nat.le_refl _)
  have h2:=strict_get hs hy hx h
  rw [e,h1] at h2
  cases h2
theorem isK_iff {K:List Cc} {k:Int×Int} {lo:Nat} (p:Place K k lo) (hs:Strict (K.map (·.1))):isK K lo k=true ↔ ∃ a,(k,a)∈K:=by
 constructor
 ·intro h
  unfold isK at h
  split at h
  ·cases h
  ·rename_i x hx
   exact ⟨x.2,by have:=List.mem_of_getElem? hx;rw [← of_decide_eq_true h];exact this⟩
 ·rintro ⟨a,ha⟩
  obtain ⟨j,hj⟩:=List.mem_iff_getElem?.1 ha
  have e:=p.at_is hs hj rfl
  subst e
  unfold isK
  rw [hj]
  exact decide_eq_true rfl
theorem Place.drop_lt {K:List Cc} {k:Int×Int} {lo:Nat} (p:Place K k lo) (hs:Strict (K.map (·.1))) {x:Cc} (hx:x∈K.drop (lo+(isK K lo k).toNat)):ltOf cfA k x.1=true:=by
 obtain ⟨j,hj⟩:=List.mem_iff_getElem?.1 hx
 rw [List.getElem?_drop] at hj
 have h1:=p.ge _ x hj (by omega)
 cases hq:ltOf cfA k x.1 with
 | true=>rfl
 | false=>
  have e:=cfA_same x.1 k h1 hq
  have e2:=p.at_is hs hj e
  have hi:isK K lo k=true:=(isK_iff p hs).2 ⟨x.2,by have:=List.mem_of_getElem? hj;rw [← e];exact this⟩
  rw [hi] at e2
  have e3:lo+1+j=lo:=e2
  omega
theorem Place.take_lt {K:List Cc} {k:Int×Int} {lo:Nat} (p:Place K k lo) {x:Cc} (hx:x∈K.take lo):ltOf cfA x.1 k=true:=by
 obtain ⟨j,hj⟩:=List.mem_iff_getElem?.1 hx
 rw [List.getElem?_take] at hj
 split at hj
 ·exact p.lt j x hj ‹_›
 ·cases hj
theorem ins_mem {K:List Cc} {k:Int×Int} {lo:Nat} (p:Place K k lo) (hs:Strict (K.map (·.1))) (mid:List Cc) (x:Cc):x∈insK K k lo mid ↔ (x∈K∧x.1≠k)∨x∈mid:=by
 unfold insK
 rw [List.mem_append,List.mem_append]
 constructor
 ·rintro (h|h|h)
  ·exact .inl ⟨List.mem_of_mem_take h,fun e=>by have:=p.take_lt h;rw [e,cfA_irr] at this;cases this⟩
  ·exact .inr h
  ·exact .inl ⟨List.mem_of_mem_drop h,fun e=>by have:=p.drop_lt hs h;rw [e,cfA_irr] at this;cases this⟩
 ·rintro (⟨h,hn⟩|h)
  ·obtain ⟨j,hj⟩:=List.mem_iff_getElem?.1 h
   by_cases q:j < lo
   ·exact .inl (List.mem_iff_getElem?.2 ⟨j,by rw [List.getElem?_take,if_pos q];exact hj⟩)
   ·refine .inr (.inr ?_)
    have hne:isK K lo k=true→j≠lo:=fun hi e=>by
     subst e
     unfold isK at hi
     rw [hj] at hi
     exact hn (of_decide_eq_true hi)
    have hle:lo+(isK K lo k).toNat≤j:=by
     cases hi:isK K lo k with
     | false=>simp;omega
     | true=>have:=hne hi;simp;omega
    exact List.mem_iff_getElem?.2 ⟨j - (lo+(isK K lo k).toNat),by rw [List.getElem?_drop,Nat.add_sub_cancel' hle];exact hj⟩
  ·exact .inr (.inl h)
theorem ins_strict {K:List Cc} {k:Int×Int} {lo:Nat} (p:Place K k lo) (hs:Strict (K.map (·.1))) (mid:List Cc) (hm:mid=[]∨∃ a,mid=[(k,a)]):Strict ((insK K k lo mid).map (·.1)):=by
 have hs':=hs
 unfold Strict at hs ⊢
 unfold insK
 rw [List.map_append,List.map_append,List.pairwise_append,List.pairwise_append]
 have hk:∀ y∈mid.map (·.1),y=k:=fun y hy=>by
  rcases hm with rfl|⟨a,rfl⟩
  ·simp at hy
  ·simpa using hy
 refine ⟨?_,⟨?_,?_,?_⟩,?_⟩
 ·rw [List.map_take];exact hs.take
 ·rcases hm with rfl|⟨a,rfl⟩ <;> simp
 ·rw [List.map_drop];exact hs.drop
 ·intro x hx y hy
  rw [hk x hx]
  obtain ⟨z,hz,rfl⟩:=List.mem_map.1 hy
  exact p.drop_lt hs' hz
 ·intro x hx y hy
  obtain ⟨z,hz,rfl⟩:=List.mem_map.1 hx
  have h1:=p.take_lt hz
  rcases List.mem_append.1 hy with hy|hy
  ·rw [hk y hy];exact h1
  ·obtain ⟨u,hu,rfl⟩:=List.mem_map.1 hy
   exact cfA_trans h1 (p.drop_lt hs' hu)
end Go.Proofs.YtlppcfeakakpfaaGreatDoor
namespace Go.Proofs.YtlppcfeakakpfaaGreatDoor
open Go.RowKit Go.Maps Go.Sort Go.Lib
def inL (m1 m2 m3 m4:Int) (L:List Cc):List Cc:=L.filter fun x=>inA m1 m2 m3 m4 x.1.1 x.1.2
theorem inL_iff {m1 m2 m3 m4:Int} {L M:List Cc} {x:Cc} (h:inL m1 m2 m3 m4 L=M):x∈M ↔ x∈L∧inA m1 m2 m3 m4 x.1.1 x.1.2=true:=by rw [← h];exact List.mem_filter
theorem inL_sub {m1 m2 m3 m4:Int} {L M:List Cc} {x:Cc} (h:inL m1 m2 m3 m4 L=M) (hx:x∈M):x∈L:=((inL_iff h).1 hx).1
theorem inL_mem {m1 m2 m3 m4:Int} {L M:List Cc} {k:Int×Int} {a b:Ct} (h:inL m1 m2 m3 m4 L=M) (hx:(k,a)∈L) (hy:(k,b)∈M):(k,a)∈M:=(inL_iff h).2 ⟨hx,((inL_iff h).1 hy).2⟩
theorem inL_once {m1 m2 m3 m4:Int} {L M:List Cc} (h:inL m1 m2 m3 m4 L=M) (ho:L.Pairwise (fun x y=>x.1≠y.1)):M.Pairwise (fun x y=>x.1≠y.1):=by rw [← h];exact ho.filter _
theorem inL_len {m1 m2 m3 m4:Int} {L M:List Cc} (h:inL m1 m2 m3 m4 L=M):M.length≤L.length:=by rw [← h];exact List.length_filter_le _ _
structure FiA (m1 m2 m3 m4:Int) (w:World) (g:Nat) (mv:Option Nat) (r:Nat) (L:List Cc) (v:Value) (wr:World) (rem:List Cc) (acc:List (Int×Int)):Prop where
 un:UnR w w.heap.size mv r L.length (fun x=>inA m1 m2 m3 m4 x.1.1 x.1.2=true) (fun _=>False) L v wr rem acc
 row:wr.ownsRow (w.heap.size+1+1+1) 36 2 v acc.length (flatK encA 2 acc.toArray).toList
 b0:Blk wr w.heap.size [.pointer (some ⟨g,0,none⟩)] 25
 b1:Blk wr (w.heap.size+1) [.int .i64 m1,.int .i64 m2,.int .i64 m3,.int .i64 m4] 48
 b2:Blk wr (w.heap.size+1+1) [v] 96
theorem filled_map (g:Nat) (m1 m2 m3 m4:Int) (L M:List Cc) (hM:inL m1 m2 m3 m4 L=M) (w:World) (hg:GI 0 w g L) (lL:L.length≤4096) (sz:Int) (hsz:sizeA m1 m2 m3 m4=sz) (hnl:¬ sz < (L.length:Int)) :
  Calls Tryz.prog 68 #[.pointer (some ⟨g,0,none⟩),.agg #[.int .i64 m1,.int .i64 m2,.int .i64 m3,.int .i64 m4]] w fun e w'=>∃ U v',e=.returned v'∧CellsFrom w.heap.size w' v' U∧Strict U∧(∀ x,x∈U ↔ ∃ a,(x,a)∈M)∧Kp w w' Nul:=by
 obtain ⟨mv,bg,hlen⟩:=gi_len hg
 obtain ⟨i0,hi,hz0,hz1,hz2⟩:=infoAddr
 obtain ⟨W3,hW3⟩:∃ W3,((w.alloc (.cells #[.pointer (some ⟨g,0,none⟩)] 25)).alloc (.cells #[.int .i64 m1,.int .i64 m2,.int .i64 m3,.int .i64 m4] 48)).alloc (.cells #[.slice none 0 0] 96)=W3:=⟨_,rfl⟩
 have k3:Kp w W3 Nul:=by rw [← hW3];exact (((Kp.refl w Nul).alloc _).alloc _).alloc _
 have s3:W3.heap.size=w.heap.size+1+1+1:=by rw [← hW3,World.size_alloc,World.size_alloc,World.size_alloc]
 have B0:Blk W3 w.heap.size [.pointer (some ⟨g,0,none⟩)] 25:=by rw [← hW3];exact ((Blk.new w [.pointer (some ⟨g,0,none⟩)] _).alloc _).alloc _
 have B1:Blk W3 (w.heap.size+1) [.int .i64 m1,.int .i64 m2,.int .i64 m3,.int .i64 m4] 48:=by
  have:=Blk.new (w.alloc (.cells #[.pointer (some ⟨g,0,none⟩)] 25)) [.int .i64 m1,.int .i64 m2,.int .i64 m3,.int .i64 m4] 48
  rw [World.size_alloc] at this
  rw [← hW3];exact this.alloc _
 have B2:Blk W3 (w.heap.size+1+1) [.slice none 0 0] 96:=by
  have:=Blk.new ((w.alloc (.cells #[.pointer (some ⟨g,0,none⟩)] 25)).alloc (.cells #[.int .i64 m1,.int .i64 m2,.int .i64 m3,.int .i64 m4] 48)) [.slice none 0 0] 96
  rw [World.size_alloc,World.size_alloc] at this
  rw [← hW3];exact this
 have HS:Hid (∀ wq,Kp W3 wq Nul→wq.cell? ⟨w.heap.size,0,none⟩=some (.pointer (some ⟨g,0,none⟩))∧wq.cell? ⟨w.heap.size+1,0,none⟩=some (.int .i64 m1)∧wq.cell? ⟨w.heap.size+1,1,none⟩=some (.int .i64 m2)∧wq.cell? ⟨w.heap.size+1,2,none⟩=some (.int .i64 m3)∧wq.cell? ⟨w.heap.size+1,3,none⟩=some (.int .i64 m4)∧wq.cell? ⟨g,0,none⟩=some (.map mv)∧∀ ty,(Builtin.len_ #[66] ty #[.map mv]).run Tryz.prog wq=.ok (.int .i64 L.length) wq):=fun wq k=>
  ⟨(B0.kp k (fun x=>x)).cell rfl,(B1.kp k (fun x=>x)).cell rfl,(B1.kp k (fun x=>x)).cell rfl,(B1.kp k (fun x=>x)).cell rfl,(B1.kp k (fun x=>x)).cell rfl,(bg.kp (k3.trans k) (fun x=>x)).cell rfl,hlen wq (k3.trans k)⟩
 have HSize:Hid (∀ wq,Kp W3 wq Nul→Calls Tryz.prog 91 #[.agg #[.int .i64 m1,.int .i64 m2,.int .i64 m3,.int .i64 m4]] wq fun e w'=>e=.returned (.int .i64 sz)∧Kp W3 w' Nul):=fun wq k=>(pSize_any m1 m2 m3 m4 wq).mono fun e w' ⟨q1,q2⟩=>⟨hsz ▸ q1,k.trans (Kp.of_gr q2)⟩
 have HIn:Hid (∀ c s wq,Calls Tryz.prog 93 #[.agg #[.int .i64 m1,.int .i64 m2,.int .i64 m3,.int .i64 m4],.agg #[.int .i64 c,.int .i64 s]] wq fun e w'=>e=.returned (.bool (inA m1 m2 m3 m4 c s))∧Kp wq w' Nul):=fun c s wq=>(pIn_any m1 m2 m3 m4 c s wq).mono fun e w' ⟨q1,q2⟩=>⟨q1,Kp.of_gr q2⟩
 have HG:Hid (GI 0 w g L):=hg
 have HBg:Hid (Blk w g [.map mv] 68):=bg
 have HLL:Hid (L.length≤4096):=lL
 have HMM:Hid (inL m1 m2 m3 m4 L=M):=hM
 have HW3:Hid (((w.alloc (.cells #[.pointer (some ⟨g,0,none⟩)] 25)).alloc (.cells #[.int .i64 m1,.int .i64 m2,.int .i64 m3,.int .i64 m4] 48)).alloc (.cells #[.slice none 0 0] 96)=W3):=hW3
 have HK3:Hid (Kp w W3 Nul):=k3
 have HS3:Hid (W3.heap.size=w.heap.size+1+1+1):=s3
 have HB0:Hid (Blk W3 w.heap.size [.pointer (some ⟨g,0,none⟩)] 25):=B0
 have HB1:Hid (Blk W3 (w.heap.size+1) [.int .i64 m1,.int .i64 m2,.int .i64 m3,.int .i64 m4] 48):=B1
 have HB2:Hid (Blk W3 (w.heap.size+1+1) [.slice none 0 0] 96):=B2
 clear hg bg hlen lL hM hsz hW3 k3 s3 B0 B1 B2
 go_enter Tryz.func68,Tryz.ntmps68
 go_wp2_with fail
 rw [HW3.out]
 clear HW3
 refine wp_region_noPanic ?_
 refine wp_region_nul (W:=W3) (Kp.refl _ _) (by kernel_rfl) (by kernel_rfl) ?_
 refine quiet_run (some 8) rfl ?_ (by rfl) ?_ ?_
 rotate_left
 ·intro w' hk;obtain ⟨s0,s1,s2,s3,s4,s5,s6⟩:=HS.out _ hk;clear hk;go_simp;try with_reducible rfl
 simp only [Act.put,List.setIfInBounds_toArray,List.set_cons_zero,List.set_cons_succ]
 refine quiet_call (some 9) rfl 91 #[.agg #[.int .i64 m1,.int .i64 m2,.int .i64 m3,.int .i64 m4]] (.int .i64 sz) (by rfl) (fun w'=>by go_simp) (fun w' hk=>HSize.out w' hk) ?_
 simp only [Act.put,List.setIfInBounds_toArray,List.set_cons_zero,List.set_cons_succ]
 refine quiet_run (some 10) rfl ?_ (by rfl) ?_ ?_
 rotate_left
 ·intro w' hk;obtain ⟨s0,s1,s2,s3,s4,s5,s6⟩:=HS.out _ hk;clear hk;go_simp;try with_reducible rfl
 simp only [Act.put,List.setIfInBounds_toArray,List.set_cons_zero,List.set_cons_succ]
 refine quiet_run (some 11) rfl ?_ (by rfl) ?_ ?_
 rotate_left
 ·intro w' hk;obtain ⟨s0,s1,s2,s3,s4,s5,s6⟩:=HS.out _ hk;clear hk;go_simp;try with_reducible rfl
 simp only [Act.put,List.setIfInBounds_toArray,List.set_cons_zero,List.set_cons_succ]
 refine quiet_run (some 12) rfl ?_ (by rfl) ?_ ?_
 rotate_left
 ·intro w' hk;obtain ⟨s0,s1,s2,s3,s4,s5,s6⟩:=HS.out _ hk;clear hk;go_simp;try with_reducible rfl
 simp only [Act.put,List.setIfInBounds_toArray,List.set_cons_zero,List.set_cons_succ]
 refine quiet_run (some 13) rfl ?_ (by rfl) ?_ ?_
 rotate_left
 ·intro w' hk;obtain ⟨s0,s1,s2,s3,s4,s5,s6⟩:=HS.out _ hk;clear hk;go_simp;try with_reducible rfl
 simp only [Act.put,List.setIfInBounds_toArray,List.set_cons_zero,List.set_cons_succ]
 refine quiet_run (some 14) rfl ?_ (by rfl) ?_ ?_
 rotate_left
 ·intro w' hk;obtain ⟨s0,s1,s2,s3,s4,s5,s6⟩:=HS.out _ hk;clear hk;go_simp;try with_reducible rfl
 simp only [Act.put,List.setIfInBounds_toArray,List.set_cons_zero,List.set_cons_succ]
 refine quiet_run (some 15) rfl (.bool false) (by rfl) ?_ ?_
 ·intro w' hk;clear hk;go_simp;try simp [hnl]
 simp only [Act.put,List.setIfInBounds_toArray,List.set_cons_zero,List.set_cons_succ]
 refine wpQuiet_nil ?_
 intro w2 hk2
 refine NoPanic.normal ?_
 obtain ⟨c0,_,_,_,_,c5,_⟩:=HS.out w2 hk2
 have HLow:Hid (GridIn w2 (fun b=>b < w.heap.size) g L):=HG.out.low.kp (HK3.out.trans hk2)
 have HBg2:Hid (Blk w2 g [.map mv] 68):=HBg.out.kp (HK3.out.trans hk2) (fun x=>x)
 have HKW:Hid (Kp W3 w2 Nul):=hk2
 clear hk2 hnl HS HSize
 go_wp2_with (first
  | (at_range;refine wpList_range_grid _ rfl _ rfl g L mv w.heap.size rfl HLow.out HBg2.out ?_;intro w0 hrg0 hg0 hs0)
  | fail)
 have HStart:Hid (FiA m1 m2 m3 m4 w g mv w2.heap.size L (.slice none 0 0) w0 L []):=by
  have k0:Kp w2 w0 Nul:=Kp.of_grown hg0 (fun i e=>by cases e)
  have k30:Kp W3 w0 Nul:=HKW.out.trans k0
  have r0:∀ B,w0.ownsRow B 36 2 (.slice none 0 0) ([]:List (Int×Int)).length (flatK encA 2 ([]:List (Int×Int)).toArray).toList:=fun B=>⟨by simp [flatK],.inl ⟨rfl,rfl⟩⟩
  refine ⟨⟨hrg0,r0 _,by simp,List.nodup_nil,fun x=>⟨fun h=>by simp at h,fun h=>?_⟩,fun x h=>h,HK3.out.trans k30⟩,r0 _,HB0.out.kp k30 (fun x=>x),HB1.out.kp k30 (fun x=>x),HB2.out.kp k30 (fun x=>x)⟩
  rcases h with h|⟨b,h1,h2,_⟩
  ·exact h.elim
  ·exact absurd h1 h2
 have HAr:Hid (w.heap.size+1+1+1≤w2.heap.size):=by show _≤_;have:=HKW.out.size;have:=HS3.out;omega
 clear hrg0 hg0 hs0 c0 c5 HLow HBg2 HKW HB0 HB1 HB2 HS3 HK3
 go_frame
 obtain ⟨r2,hr2⟩:∃ r2,w2.heap.size=r2:=⟨_,rfl⟩
 rw [hr2] at HStart HAr
 rw [hr2]
 clear hr2
 go_loopw [] (fun wr=>∃ v rem acc,FiA m1 m2 m3 m4 w g mv r2 L v wr rem acc) (fun wr=>glen wr mv r2)
 case atStart=>exact ⟨_,L,[],HStart.out⟩
 case round=>
  clear HStart
  obtain ⟨v,rem,acc,hfi⟩:=hrel
  have HF:Hid (FiA m1 m2 m3 m4 w g mv r2 L v wr rem acc):=hfi
  have HRG:Hid (GRg wr w.heap.size mv r2 rem):=hfi.un.rg
  have hA2:w.heap.size≤r2:=by have:=HAr.out;omega
  clear hfi
  go_wp2_with (first
   | (at_next;refine wpList_next_grid _ rfl _ rfl w.heap.size mv r2 rem rfl HRG.out hA2 ?_ ?_)
   | fail)
  ·intro hr0
   have d2:wr.cell? ⟨w.heap.size+1+1,0,none⟩=some v:=HF.out.b2.cell rfl
   have HSort:Hid (Calls Tryz.prog 71 #[v,.func (.func 72) #[] #[]] wr fun e w'=>e=.returned (.tuple #[])∧CellsFrom w.heap.size w' v (acc.mergeSort fun x y=>!(ltOf cfA) y x)∧Kp w w' Nul∧w'.cell? ⟨w.heap.size+1+1,0,none⟩=some v):=by
    have hacc:acc.length≤1048576:=by have:=HF.out.un.len;have:=HLL.out;omega
    refine (sort_cells acc v (w.heap.size+1+1+1) wr hacc (own1_row rfl HF.out.row)).mono ?_
    rintro e w' ⟨rfl,h1,h2⟩
    exact ⟨rfl,(own1_from h1).down (by omega),HF.out.un.kp.trans' h2 (fun i hi e=>absurd e (by omega)),(HF.out.b2.kp h2 (by omega)).cell rfl⟩
   have HM2:Hid (∀ x,x∈(acc.mergeSort fun x y=>!(ltOf cfA) y x) ↔ ∃ a,(x,a)∈M):=fun x=>by
    rw [List.mem_mergeSort,HF.out.un.mem,hr0]
    constructor
    ·rintro (h|⟨b,h1,_,h3⟩)
     ·exact h.elim
     ·exact ⟨b,(inL_iff HMM.out).2 ⟨h1,h3⟩⟩
    ·rintro ⟨a,h⟩
     exact .inr ⟨a,((inL_iff HMM.out).1 h).1,by simp,((inL_iff HMM.out).1 h).2⟩
   have HST:Hid (Strict (acc.mergeSort fun x y=>!(ltOf cfA) y x)):=merge_strict HF.out.un.nodup
   clear hr0 HF HRG hA2
   go_wp2_with fail
   refine HSort.out.mono ?_
   rintro e w' ⟨rfl,hcf,hk,d3⟩
   go_wp2_with fail
   go_ret
   exact ⟨_,_,rfl,hcf,HST.out,HM2.out,hk⟩
  ·intro c s ct sl w1 hmem hin hrg1 hlt1 hgr1 hsz1 hen
   have k1:Kp wr w1 (fun i=>i=r2):=Kp.of_grown hgr1 (fun i e=>by cases e;rfl)
   have HK1:Hid (Kp w w1 Nul):=HF.out.un.kp.trans' k1 (fun i hi e=>by have:i=r2:=e;omega)
   have hne:=row_ne HRG.out HF.out.un.row
   have HNE:Hid (v.ownBlock≠some r2):=hne
   have HRow1:Hid (w1.ownsRow (w.heap.size+1+1+1) 36 2 v acc.length (flatK encA 2 acc.toArray).toList):=HF.out.row.kept hgr1 (.inr hne)
   have hr3:=HAr.out
   have b0:=HF.out.b0.kp k1 (fun e=>by have:w.heap.size=r2:=e;omega)
   have b1:=HF.out.b1.kp k1 (fun e=>by have:w.heap.size+1=r2:=e;omega)
   have b2:=HF.out.b2.kp k1 (fun e=>by have:w.heap.size+1+1=r2:=e;omega)
   have HB0:Hid (Blk w1 w.heap.size [.pointer (some ⟨g,0,none⟩)] 25):=b0
   have HB1:Hid (Blk w1 (w.heap.size+1) [.int .i64 m1,.int .i64 m2,.int .i64 m3,.int .i64 m4] 48):=b1
   have HB2:Hid (Blk w1 (w.heap.size+1+1) [v] 96):=b2
   have d0:(w1.alloc (.cells #[.int .i64 c,.int .i64 s] 36)).cell? ⟨w.heap.size+1,0,none⟩=some (.int .i64 m1):=(b1.alloc _).cell rfl
   have d1:(w1.alloc (.cells #[.int .i64 c,.int .i64 s] 36)).cell? ⟨w.heap.size+1,1,none⟩=some (.int .i64 m2):=(b1.alloc _).cell rfl
   have d2:(w1.alloc (.cells #[.int .i64 c,.int .i64 s] 36)).cell? ⟨w.heap.size+1,2,none⟩=some (.int .i64 m3):=(b1.alloc _).cell rfl
   have d3:(w1.alloc (.cells #[.int .i64 c,.int .i64 s] 36)).cell? ⟨w.heap.size+1,3,none⟩=some (.int .i64 m4):=(b1.alloc _).cell rfl
   have HG1:Hid (GRg w1 w.heap.size mv r2 (rem.filter (fun x=>decide (x.1≠(c,s))))):=by show GRg _ _ _ _ _;simpa using hrg1
   have HLT:Hid (glen w1 mv r2 < glen wr mv r2):=hlt1
   have HMEM:Hid (((c,s),ct)∈rem):=hmem
   have HA3:Hid (∀ wq,Kp (w1.alloc (.cells #[.int .i64 c,.int .i64 s] 36)) wq Nul→wq.cell? ⟨w1.heap.size,0,none⟩=some (.int .i64 c)∧wq.cell? ⟨w1.heap.size,1,none⟩=some (.int .i64 s)∧wq.cell? ⟨w.heap.size+1+1,0,none⟩=some v):=fun wq k=>⟨((Blk.new w1 [.int .i64 c,.int .i64 s] 36).kp k (fun x=>x)).cell rfl,((Blk.new w1 [.int .i64 c,.int .i64 s] 36).kp k (fun x=>x)).cell rfl,(HB2.out.kp (((Kp.refl w1 Nul).alloc _).trans k) (fun x=>x)).cell rfl⟩
   clear hne k1 hrg1 hlt1 hgr1 hsz1 hmem hin b0 b1 b2 hr3 hA2
   go_wp2_with fail
   obtain ⟨I,hI⟩:∃ I,inA m1 m2 m3 m4 c s=I:=⟨_,rfl⟩
   have HI:Hid (inA m1 m2 m3 m4 c s=I):=hI
   have HIc:=HIn.out c s (w1.alloc (.cells #[.int .i64 c,.int .i64 s] 36))
   rw [hI] at HIc
   clear hI
   refine HIc.mono ?_
   clear HIc
   rintro e w3 ⟨rfl,hk3⟩
   obtain ⟨q0,q1,q2⟩:=HA3.out w3 hk3
   have hk13:Kp w1 w3 Nul:=((Kp.refl w1 Nul).alloc _).trans hk3
   have HK3:Hid (Kp w w3 Nul):=HK1.out.trans hk13
   have HK13:Hid (Kp w1 w3 Nul):=hk13
   have HRow3:Hid (w3.ownsRow (w.heap.size+1+1+1) 36 2 v acc.length (flatK encA 2 acc.toArray).toList):=row_kp HRow1.out hk13 (fun i _ e=>e)
   have HB4:Hid (Blk (w3.alloc (.cells #[.int .i64 c,.int .i64 s] 36)) w3.heap.size [.int .i64 c,.int .i64 s] 36):=Blk.new w3 [.int .i64 c,.int .i64 s] _
   have HRow4:Hid ((w3.alloc (.cells #[.int .i64 c,.int .i64 s] 36)).ownsRow (w.heap.size+1+1+1) 36 2 v acc.length (flatK encA 2 acc.toArray).toList):=HRow3.out.alloc _
   have HLEN:Hid (acc.length≤4096):=by show _≤_;have:=HF.out.un.len;have:=HLL.out;omega
   have HB30:=HB0.out.kp hk13 (fun x=>x)
   have HB3':Hid (Blk w3 w.heap.size [.pointer (some ⟨g,0,none⟩)] 25∧Blk w3 (w.heap.size+1) [.int .i64 m1,.int .i64 m2,.int .i64 m3,.int .i64 m4] 48∧Blk w3 (w.heap.size+1+1) [v] 96):=⟨HB30,HB1.out.kp hk13 (fun x=>x),HB2.out.kp hk13 (fun x=>x)⟩
   clear hk3 hk13 HA3 HRow1 HB0 HB1 HB2 HB30 d0 d1 d2 d3
   cases I with
   | false=>
    have HNP:Hid (¬ inA m1 m2 m3 m4 c s=true):=by show ¬ _;rw [HI.out];exact Bool.false_ne_true
    have HF6:Hid (FiA m1 m2 m3 m4 w g mv r2 L v w3 (rem.filter (fun x=>decide (x.1≠(c,s)))) acc):=by
     have b16:Below w.heap.size w1 w3:=⟨HK13.out.os,HK13.out.tape,HK13.out.output,HK13.out.size,fun i hi=>HK13.out.block i (by have:=HK1.out.size;omega) (fun e=>e)⟩
     have r16:w3.heap[r2]? = w1.heap[r2]?:=HK13.out.block r2 HG1.out.lt (fun e=>e)
     exact ⟨HF.out.un.skip HMEM.out HNP.out HG.out.once (HG1.out.keep b16 r16) (row_down HRow3.out (by omega)) HK3.out,HRow3.out,HB3'.out.1,HB3'.out.2.1,HB3'.out.2.2⟩
    have HME:Hid (glen w3 mv r2 < glen wr mv r2):=by
     have b16:Below w.heap.size w1 w3:=⟨HK13.out.os,HK13.out.tape,HK13.out.output,HK13.out.size,fun i hi=>HK13.out.block i (by have:=HK1.out.size;omega) (fun e=>e)⟩
     have r16:w3.heap[r2]? = w1.heap[r2]?:=HK13.out.block r2 HG1.out.lt (fun e=>e)
     show _ < _
     rw [HG1.out.glen b16 r16];exact HLT.out
    clear HB3' HRow3 HRow4 HB4
    go_wp2_with fail
    go_roundw
    case rel=>exact ⟨_,_,_,HF6.out⟩
    case measure=>exact HME.out
   | true=>
   go_wp2_with (at_builtin;refine wpList_append_own _ rfl _ _ 96 rfl (w.heap.size+1+1+1) 36 i0 _ 2 16 Tryz.underlying96 hi hz0 hz1 hz2 rfl (by decide) _ _ _ rfl HRow4.out ⟨w3.heap.size,0,none⟩ 1 1 (encA (c,s)) rfl ?qc1 ?qc2 ?qc3 ?qc4 ?qc5 ?qc6 ?_)
   case qc1=>rfl
   case qc2=>
    intro j u hj
    first
    | exact hj
    | (rw [Addr.add_lit,Nat.zero_add];exact HB4.out.at'.trans hj)
   case qc3=>exact encA_one _
   case qc4=>have:=HLEN.out;unfold maxLen;omega
   case qc5=>have:=HLEN.out;omega
   case qc6=>rw [World.size_alloc];have:=HB3'.out.2.2.lt;omega
   intro v5 w5 hrow5 hg5 hnil5
   have hob:=own_block HRow4.out
   have k45:=Kp.of_grown (S:=fun i=>v.ownBlock=some i) hg5 (fun i e=>e)
   have k35:Kp w3 w5 (fun i=>v.ownBlock=some i):=((Kp.refl w3 _).alloc _).trans k45
   have HB5:Hid (Blk w5 w.heap.size [.pointer (some ⟨g,0,none⟩)] 25∧Blk w5 (w.heap.size+1) [.int .i64 m1,.int .i64 m2,.int .i64 m3,.int .i64 m4] 48∧Blk w5 (w.heap.size+1+1) [v] 96):=⟨HB3'.out.1.kp k35 (fun e=>by have:=hob _ e;omega),HB3'.out.2.1.kp k35 (fun e=>by have:=hob _ e;omega),HB3'.out.2.2.kp k35 (fun e=>by have:=hob _ e;omega)⟩
   have HK35:Hid (Kp w3 w5 (fun i=>v.ownBlock=some i)):=k35
   have HOB:Hid (∀ i,v.ownBlock=some i→w.heap.size+1+1+1≤i):=hob
   have HRow5:Hid (w5.ownsRow (w.heap.size+1+1+1) 36 2 v5 (acc.length+1) ((flatK encA 2 acc.toArray).toList ++ encA (c,s))):=hrow5
   have O5:Hid (v5.oneCell'=true):=row_one hrow5
   clear hrow5 hg5 hnil5 k45 k35 hob HB4 HRow4 HB3'
   go_wp2_with (first
    | (refine wpList_store_var rfl 96 (.tmp 5) (.tmp 42) rfl (w.heap.size+1+1) rfl v5 rfl O5.out 96 v HB5.out.2.2 (by kernel_rfl) ?_;intro w6 hb6 hk6)
    | fail)
   have k36:Kp w3 w6 (fun i=>v.ownBlock=some i∨i=w.heap.size+1+1):=(HK35.out.mono (fun i _ e=>.inl e)).trans' hk6 (fun i _ e=>.inr e)
   have hr2:=HAr.out
   have hr1:=HG1.out.lt
   have hb3:=HK13.out.size
   have HK6:Hid (Kp w w6 Nul):=HK3.out.trans' k36 (fun i hi e=>by
    rcases e with e|e
    ·have:=HOB.out i e;omega
    ·omega)
   have k16:=HK13.out.of_nul.trans k36
   have b16:Below w.heap.size w1 w6:=⟨k16.os,k16.tape,k16.output,k16.size,fun i hi=>k16.block i (by have:=HK1.out.size;omega) (fun e=>by
    rcases e with e|e
    ·have:=HOB.out i e;omega
    ·omega)⟩
   have r16:w6.heap[r2]? = w1.heap[r2]?:=k16.block r2 hr1 (fun e=>by
    rcases e with e|e
    ·exact HNE.out e
    ·omega)
   have hrow6:w6.ownsRow (w.heap.size+1+1+1) 36 2 v5 (acc.length+1) ((flatK encA 2 acc.toArray).toList ++ encA (c,s)):=row_kp HRow5.out hk6 (fun i hi e=>by have:i=w.heap.size+1+1:=e;omega)
   have HF6:Hid (FiA m1 m2 m3 m4 w g mv r2 L v5 w6 (rem.filter (fun x=>decide (x.1≠(c,s)))) (acc ++ [(c,s)])):=by
    refine ⟨HF.out.un.take HMEM.out HI.out HG.out.once (fun h=>h) (HG1.out.keep b16 r16) (row_down hrow6 (by omega)) HK6.out,?_,HB5.out.1.kp hk6 (fun e=>by have:w.heap.size=w.heap.size+1+1:=e;omega),HB5.out.2.1.kp hk6 (fun e=>by have:w.heap.size+1=w.heap.size+1+1:=e;omega),hb6⟩
    rw [flat_snoc,List.length_append];exact hrow6
   have HME:Hid (glen w6 mv r2 < glen wr mv r2):=by show _ < _;rw [HG1.out.glen b16 r16];exact HLT.out
   clear k36 hr2 hr1 hb3 k16 b16 r16 hrow6 hb6 hk6
   go_wp2_with fail
   go_roundw
   case rel=>exact ⟨_,_,_,_,_,_,_,_,_,_,_,_,⟨_,_,_,HF6.out⟩,rfl⟩
   case measure=>exact HME.out
end Go.Proofs.YtlppcfeakakpfaaGreatDoor
namespace Go.Proofs.YtlppcfeakakpfaaGreatDoor
open Go.RowKit Go.Maps Go.Sort Go.Lib Go.Shelf
theorem bs_lt {K:List Cc} (hs:Strict (K.map (·.1))) {q:Int×Int} {k:Nat} {x:Cc} (hx:K[k]? = some x) (h:ltOf cfA x.1 q=true):∀ j y,K[j]? = some y→j < k+1→ltOf cfA y.1 q=true:=fun j y hy hj=>by
 rcases Nat.lt_or_ge j k with h1|h1
 ·exact cfA_trans (strict_get hs hy hx h1) h
 ·have e:j=k:=by omega
  subst e
  rw [hx] at hy
  injection hy with hy
  rw [← hy]
  exact h
theorem bs_ge {K:List Cc} (hs:Strict (K.map (·.1))) {q:Int×Int} {k:Nat} {x:Cc} (hx:K[k]? = some x) (h:ltOf cfA x.1 q=false):∀ j y,K[j]? = some y→k≤j→ltOf cfA y.1 q=false:=fun j y hy hj=>by
 rcases Nat.lt_or_ge k j with h1|h1
 ·cases hc:ltOf cfA y.1 q with
  | false=>rfl
  | true=>rw [cfA_trans (strict_get hs hx hy h1) hc] at h;cases h
 ·have e:j=k:=by omega
  subst e
  rw [hx] at hy
  injection hy with hy
  rw [← hy]
  exact h
theorem mid_b {lo hi n:Nat} (h:lo < hi∧hi≤n∧n≤4096):wrap64 ((wrap64 ((lo:Int)+(hi:Int))).tdiv 2)=(((lo+hi) / 2:Nat):Int):=by
 have e:wrap64 ((lo:Int)+(hi:Int))=((lo+hi:Nat):Int):=by unfold wrap64;omega
 rw [e,Int.tdiv_eq_ediv_of_nonneg (by omega)]
 unfold wrap64
 omega
theorem pl_lt {k h n:Nat} (h1:k < h) (h2:h≤n):(k:Int) < (n:Int):=by omega
theorem pl_wr {k n:Nat} (h:k < n∧n≤4096):wrap64 ((k:Int)+1)=((k+1:Nat):Int):=by unfold wrap64;omega
theorem pl_m1 {k lo hi:Nat} (h:lo≤k∧k < hi):((hi:Int) - ((k+1:Nat):Int)).toNat < ((hi:Int) - (lo:Int)).toNat:=by omega
theorem pl_m2 {k lo hi:Nat} (h:lo≤k∧k < hi):((k:Int) - (lo:Int)).toNat < ((hi:Int) - (lo:Int)).toNat:=by omega
theorem eq_ad (a b c d:Int) (w:World):(binOp .eql 36 (.agg #[.int .i64 a,.int .i64 b]) (.agg #[.int .i64 c,.int .i64 d])).run Tryz.prog w=.ok (.bool (decide ((a,b)=(c,d)))) w:=by
 by_cases h1:a=c
 ·by_cases h2:b=d
  ·subst h1 h2;simp [go_sem]
  ·subst h1;simp [go_sem,h2]
 ·simp [go_sem,h1]
theorem place_at (r n cp:Nat) (p:Option Addr) (K:List Cc) (c s:Int) (w:World) (hn:K.length=n) (hn4:n≤4096) (hs:Strict (K.map (·.1)))
  (hA:∀ wq,Kp w wq Nul→wq.cell? ⟨r,0,none⟩=some (.slice p n cp))
  (hR:∀ i x,K[i]? = some x→∃ b,p=some ⟨b,0,none⟩∧∀ wq,Kp w wq Nul→wq.rangeAt b (i * 23) [.int .i64 x.1.1,.int .i64 x.1.2]) :
  Calls Tryz.prog 44 #[.pointer (some ⟨r,0,none⟩),.agg #[.int .i64 c,.int .i64 s]] w fun e w'=>(∃ lo,e=.returned (.tuple #[.int .i64 (lo:Nat),.bool (isK K lo (c,s))])∧Place K (c,s) lo)∧Kp w w' Nul:=by
 obtain ⟨W,hW⟩:∃ W,w.alloc (.cells #[.int .i64 c,.int .i64 s] 36)=W:=⟨_,rfl⟩
 have kW:Kp w W Nul:=by rw [← hW];exact (Kp.refl _ _).alloc _
 have HW:Hid (w.alloc (.cells #[.int .i64 c,.int .i64 s] 36)=W):=hW
 have HK0:Hid (Kp w W Nul):=kW
 have HC:Hid (∀ wq,Kp W wq Nul→Blk wq w.heap.size [.int .i64 c,.int .i64 s] 36):=fun wq k=>by
  have:Blk W w.heap.size [.int .i64 c,.int .i64 s] 36:=by rw [← hW];exact Blk.new w _ _
  exact this.kp k (fun x=>x)
 have HA:Hid (∀ wq,Kp W wq Nul→wq.cell? ⟨r,0,none⟩=some (.slice p n cp)):=fun wq k=>hA wq (kW.trans k)
 have HR:Hid (∀ i x,K[i]? = some x→∃ b,p=some ⟨b,0,none⟩∧∀ wq,Kp W wq Nul→wq.rangeAt b (i * 23) [.int .i64 x.1.1,.int .i64 x.1.2]):=fun i x hx=>by
  obtain ⟨b,e1,e2⟩:=hR i x hx
  exact ⟨b,e1,fun wq k=>e2 wq (kW.trans k)⟩
 have HOr:Hid (∀ a b c d w,Calls Tryz.prog 52 #[.agg #[.int .i64 a,.int .i64 b],.agg #[.int .i64 c,.int .i64 d]] w fun e w'=>e=.returned (.int .i64 (ordC a b c d))∧Kp w w' Nul):=fun a b c d w=>(rOrder_any a b c d w).mono fun e w' h=>⟨h.1,Kp.of_gr h.2⟩
 have HS:Hid (Strict (K.map (·.1))):=hs
 have HN:Hid (K.length=n∧n≤4096):=⟨hn,hn4⟩
 have a0:W.cell? ⟨r,0,none⟩=some (.slice p n cp):=HA.out W (Kp.refl _ _)
 clear hA hR hs hn hn4 hW kW
 go_enter Tryz.func44,Tryz.ntmps44
 go_wp2_with (first|(rw [HW.out])|fail)
 clear a0
 go_loopw [6,7] (fun sl sh wr=>∃ lo hi:Nat,sl=.int .i64 lo∧sh=.int .i64 hi∧lo≤hi∧hi≤n∧(∀ j y,K[j]? = some y→j < lo→ltOf cfA y.1 (c,s)=true)∧(∀ j y,K[j]? = some y→hi≤j→ltOf cfA y.1 (c,s)=false)∧Kp W wr Nul) (fun sl sh _=>((intOf sh) - (intOf sl)).toNat)
 case atStart=>exact ⟨0,n,by simp,rfl,Nat.zero_le _,Nat.le_refl _,fun j y _ h=>absurd h (Nat.not_lt_zero _),fun j y hy h=>by have:=(List.getElem?_eq_some_iff.1 hy).1;have:=HN.out.1;omega,Kp.refl _ _⟩
 case round=>
  obtain ⟨lo,hi,rfl,rfl,hle,hhi,hlo,hge,hkr⟩:=hrel
  have HKr:Hid (Kp W wr Nul):=hkr
  have HLO:Hid (∀ j y,K[j]? = some y→j < lo→ltOf cfA y.1 (c,s)=true):=hlo
  have HGE:Hid (∀ j y,K[j]? = some y→hi≤j→ltOf cfA y.1 (c,s)=false):=hge
  clear hlo hge hkr
  by_cases hlt:lo < hi
  ·have hlt':(lo:Int) < (hi:Int):=by omega
   have HB:Hid (lo < hi∧hi≤n∧n≤4096):=⟨hlt,hhi,HN.out.2⟩
   obtain ⟨k,hk⟩:∃ k,(lo+hi) / 2=k:=⟨_,rfl⟩
   have HKB:Hid (lo≤k∧k < hi):=by show _∧_;omega
   obtain ⟨x,hx⟩:∃ x,K[k]? = some x:=⟨_,List.getElem?_eq_getElem (by have:=HN.out.1;omega)⟩
   obtain ⟨b,rfl,hrx⟩:=HR.out k x hx
   have HRx:Hid (∀ wq,Kp W wq Nul→wq.rangeAt b (k * 23) [.int .i64 x.1.1,.int .i64 x.1.2]):=hrx
   have HX:Hid (K[k]? = some x):=hx
   clear hrx hx hle hhi hlt
   go_wp2_with fail
   rw [mid_b HB.out,hk]
   have hkn:(k:Int) < (n:Int):=pl_lt HKB.out.2 HB.out.2.1
   have hk0:(0:Int)≤(k:Int):=Int.natCast_nonneg k
   obtain ⟨od,hod⟩:∃ od,ordC x.1.1 x.1.2 c s=od:=⟨_,rfl⟩
   have HOD:Hid (ltOf cfA x.1 (c,s)=decide (od < 0)):=by show _=_;rw [← hod];rfl
   have HOx:Hid (∀ w,Calls Tryz.prog 52 #[.agg #[.int .i64 x.1.1,.int .i64 x.1.2],.agg #[.int .i64 c,.int .i64 s]] w fun e w'=>e=.returned (.int .i64 od)∧Kp w w' Nul):=fun w=>by have h:=HOr.out x.1.1 x.1.2 c s w;rw [hod] at h;exact h
   clear hk hod
   refine wp_region_noPanic ?_
   refine wp_region_hel (fun w':World=>Kp W w' Nul) (by kernel_rfl) (HKr.out.drew) (fun hHeld=>?_)
   refine wpH_takes (i:=0) (v:=.pointer (some ⟨r,0,none⟩)) (some 21) rfl rfl (by kernel_rfl) (by kernel_rfl) (by kernel_rfl) (fun _ _ _ h=>h) (Or.inl ⟨by rfl,?_⟩) hHeld ?_
   ·intro w' hSw;clear hSw;go_simp
   simp only [Act.put,List.setIfInBounds_toArray,List.set_cons_zero,List.set_cons_succ]
   refine wpH_takes (i:=1) (v:=.pointer (some ⟨r,0,none⟩)) (some 22) rfl rfl (by kernel_rfl) (by kernel_rfl) (by kernel_rfl) (fun _ _ _ h=>h) (Or.inl ⟨by rfl,?_⟩) hHeld ?_
   ·intro w' hSw;clear hSw;go_simp
   simp only [Act.put,List.setIfInBounds_toArray,List.set_cons_zero,List.set_cons_succ]
   refine wpH_takes (i:=2) (v:=.pointer (some ⟨r,0,none⟩)) (some 23) rfl rfl (by kernel_rfl) (by kernel_rfl) (by kernel_rfl) (fun _ _ _ h=>h) (Or.inl ⟨by rfl,?_⟩) hHeld ?_
   ·intro w' hSw;clear hSw;go_simp
   simp only [Act.put,List.setIfInBounds_toArray,List.set_cons_zero,List.set_cons_succ]
   refine wpH_takes (i:=3) (v:=.slice (some ⟨b,0,none⟩) n cp) (some 24) rfl rfl (by kernel_rfl) (by kernel_rfl) (by kernel_rfl) (fun _ _ _ h=>h) (Or.inl ⟨by rfl,?_⟩) hHeld ?_
   ·intro w' hSw;have s0:=HA.out w' hSw;clear hSw;go_simp
   simp only [Act.put,List.setIfInBounds_toArray,List.set_cons_zero,List.set_cons_succ]
   refine wpH_takes (i:=4) (v:=.int .i64 (k:Nat)) (some 25) rfl rfl (by kernel_rfl) (by kernel_rfl) (by kernel_rfl) (fun _ _ _ h=>h) (Or.inl ⟨by rfl,?_⟩) hHeld ?_
   ·intro w' hSw;clear hSw;go_simp
   simp only [Act.put,List.setIfInBounds_toArray,List.set_cons_zero,List.set_cons_succ]
   refine wpH_takes (i:=5) (v:=.pointer (some ⟨b,k * 23,none⟩)) (some 26) rfl rfl (by kernel_rfl) (by kernel_rfl) (by kernel_rfl) (fun _ _ _ h=>h) (Or.inl ⟨by rfl,?_⟩) hHeld ?_
   ·intro w' hSw;clear hSw;go_simp
   simp only [Act.put,List.setIfInBounds_toArray,List.set_cons_zero,List.set_cons_succ]
   refine wpH_takes (i:=6) (v:=.pointer (some ⟨b,k * 23,none⟩)) (some 27) rfl rfl (by kernel_rfl) (by kernel_rfl) (by kernel_rfl) (fun _ _ _ h=>h) (Or.inl ⟨by rfl,?_⟩) hHeld ?_
   ·intro w' hSw;clear hSw;go_simp
   simp only [Act.put,List.setIfInBounds_toArray,List.set_cons_zero,List.set_cons_succ]
   refine wpH_takes (i:=7) (v:=.agg #[.int .i64 x.1.1,.int .i64 x.1.2]) (some 28) rfl rfl (by kernel_rfl) (by kernel_rfl) (by kernel_rfl) (fun _ _ _ h=>h) (Or.inl ⟨by rfl,fun w' hSw=>exec_load_row 36 (.tmp 27) rfl b (k * 23) rfl [.int .i64 x.1.1,.int .i64 x.1.2] _ (HRx.out w' hSw) Tryz.underlying36 rfl infoAddr2⟩) hHeld ?_
   simp only [Act.put,List.setIfInBounds_toArray,List.set_cons_zero,List.set_cons_succ]
   refine wpH_takes (i:=8) (v:=.agg #[.int .i64 c,.int .i64 s]) (some 29) rfl rfl (by kernel_rfl) (by kernel_rfl) (by kernel_rfl) (fun _ _ _ h=>h) (Or.inl ⟨by rfl,fun w' hSw=>exec_load_row 36 (.tmp 3) rfl w.heap.size 0 rfl [.int .i64 c,.int .i64 s] _ (blk_range (HC.out w' hSw)) Tryz.underlying36 rfl infoAddr2⟩) hHeld ?_
   simp only [Act.put,List.setIfInBounds_toArray,List.set_cons_zero,List.set_cons_succ]
   refine wpH_step (i:=9) (by kernel_rfl) rfl rfl (fun K hK=>?_)
   go_simp
   refine (HOx.out _).mono ?_
   rintro e s1 ⟨rfl,hk2⟩
   have S1:Hid (Kp W s1 Nul):=(HKr.out.drew).trans hk2
   refine hK.out _ _ S1.out (fun hHeld=>?_)
   clear hK K hk2
   (try simp only [Act.put,List.setIfInBounds_toArray,List.set_cons_zero,List.set_cons_succ])
   refine wpH_takes (i:=10) (v:=.bool (decide (od < 0))) (some 31) rfl rfl (by kernel_rfl) (by kernel_rfl) (by kernel_rfl) (fun _ _ _ h=>h) (Or.inl ⟨by rfl,?_⟩) hHeld ?_
   ·intro w' hSw;clear hSw;go_simp
   simp only [Act.put,List.setIfInBounds_toArray,List.set_cons_zero,List.set_cons_succ]
   refine wpAnyH_done (by kernel_rfl) ?_ _
   refine NoPanic.normal ?_
   clear hHeld
   cases hB:decide (od < 0) with
   | true=>
    have HN1:Hid (∀ j y,K[j]? = some y→j < k+1→ltOf cfA y.1 (c,s)=true):=bs_lt HS.out HX.out (by rw [HOD.out,hB])
    clear hB
    go_wp2_with fail
    rw [pl_wr ⟨Nat.lt_of_lt_of_le HKB.out.2 HB.out.2.1,HB.out.2.2⟩]
    go_roundw
    case rel=>exact ⟨k+1,hi,rfl,rfl,HKB.out.2,HB.out.2.1,HN1.out,HGE.out,S1.out⟩
    case measure=>exact pl_m1 HKB.out
   | false=>
    have HN1:Hid (∀ j y,K[j]? = some y→k≤j→ltOf cfA y.1 (c,s)=false):=bs_ge HS.out HX.out (by rw [HOD.out,hB])
    clear hB
    go_wp2_with fail
    go_roundw
    case rel=>exact ⟨lo,k,rfl,rfl,HKB.out.1,Nat.le_of_lt (Nat.lt_of_lt_of_le HKB.out.2 HB.out.2.1),HLO.out,HN1.out,S1.out⟩
    case measure=>exact pl_m2 HKB.out
  ·have hee:lo=hi:=by omega
   subst hee
   have HPl:Hid (Place K (c,s) lo):=⟨by have:=HN.out.1;omega,HLO.out,HGE.out⟩
   have hqn:¬ ((lo:Int) < (lo:Int)):=Int.lt_irrefl _
   have HHI:Hid (lo≤n):=hhi
   clear hle hlt HLO HGE hhi
   by_cases hl:lo < n
   ·have hl':(lo:Int) < (n:Int):=pl_lt hl (Nat.le_refl _)
    have hl0:(0:Int)≤(lo:Int):=Int.natCast_nonneg lo
    obtain ⟨x,hx⟩:∃ x,K[lo]? = some x:=⟨_,List.getElem?_eq_getElem (by have:=HN.out.1;omega)⟩
    obtain ⟨b,rfl,hrx⟩:=HR.out lo x hx
    have HRx:Hid (∀ wq,Kp W wq Nul→wq.rangeAt b (lo * 23) [.int .i64 x.1.1,.int .i64 x.1.2]):=hrx
    obtain ⟨E,hE⟩:∃ E,decide ((x.1.1,x.1.2)=(c,s))=E:=⟨_,rfl⟩
    have HEq:Hid (∀ w,(binOp .eql 36 (.agg #[.int .i64 x.1.1,.int .i64 x.1.2]) (.agg #[.int .i64 c,.int .i64 s])).run Tryz.prog w=.ok (.bool E) w):=fun w=>by rw [eq_ad,hE]
    have HIs:Hid (isK K lo (c,s)=E):=by show _=_;unfold isK;rw [hx,← hE]
    clear hrx hx hE hl
    go_wp2_with fail
    refine wp_region_noPanic ?_
    refine wp_region_hel (fun w':World=>Kp W w' Nul) (by kernel_rfl) (HKr.out.drew) (fun hHeld=>?_)
    refine wpH_takes (i:=0) (v:=.int .i64 (lo:Nat)) (some 35) rfl rfl (by kernel_rfl) (by kernel_rfl) (by kernel_rfl) (fun _ _ _ h=>h) (Or.inl ⟨by rfl,?_⟩) hHeld ?_
    ·intro w' hSw;clear hSw;go_simp
    simp only [Act.put,List.setIfInBounds_toArray,List.set_cons_zero,List.set_cons_succ]
    refine wpH_takes (i:=1) (v:=.int .i64 (lo:Nat)) (some 36) rfl rfl (by kernel_rfl) (by kernel_rfl) (by kernel_rfl) (fun _ _ _ h=>h) (Or.inl ⟨by rfl,?_⟩) hHeld ?_
    ·intro w' hSw;clear hSw;go_simp
    simp only [Act.put,List.setIfInBounds_toArray,List.set_cons_zero,List.set_cons_succ]
    refine wpH_takes (i:=2) (v:=.pointer (some ⟨r,0,none⟩)) (some 37) rfl rfl (by kernel_rfl) (by kernel_rfl) (by kernel_rfl) (fun _ _ _ h=>h) (Or.inl ⟨by rfl,?_⟩) hHeld ?_
    ·intro w' hSw;clear hSw;go_simp
    simp only [Act.put,List.setIfInBounds_toArray,List.set_cons_zero,List.set_cons_succ]
    refine wpH_takes (i:=3) (v:=.pointer (some ⟨r,0,none⟩)) (some 38) rfl rfl (by kernel_rfl) (by kernel_rfl) (by kernel_rfl) (fun _ _ _ h=>h) (Or.inl ⟨by rfl,?_⟩) hHeld ?_
    ·intro w' hSw;clear hSw;go_simp
    simp only [Act.put,List.setIfInBounds_toArray,List.set_cons_zero,List.set_cons_succ]
    refine wpH_takes (i:=4) (v:=.pointer (some ⟨r,0,none⟩)) (some 39) rfl rfl (by kernel_rfl) (by kernel_rfl) (by kernel_rfl) (fun _ _ _ h=>h) (Or.inl ⟨by rfl,?_⟩) hHeld ?_
    ·intro w' hSw;clear hSw;go_simp
    simp only [Act.put,List.setIfInBounds_toArray,List.set_cons_zero,List.set_cons_succ]
    refine wpH_takes (i:=5) (v:=.slice (some ⟨b,0,none⟩) n cp) (some 40) rfl rfl (by kernel_rfl) (by kernel_rfl) (by kernel_rfl) (fun _ _ _ h=>h) (Or.inl ⟨by rfl,?_⟩) hHeld ?_
    ·intro w' hSw;have s0:=HA.out w' hSw;clear hSw;go_simp
    simp only [Act.put,List.setIfInBounds_toArray,List.set_cons_zero,List.set_cons_succ]
    refine wpH_takes (i:=6) (v:=.int .i64 (n:Nat)) (some 41) rfl rfl (by kernel_rfl) (by kernel_rfl) (by kernel_rfl) (fun _ _ _ h=>h) (Or.inl ⟨by rfl,?_⟩) hHeld ?_
    ·intro w' hSw;clear hSw;go_simp
    simp only [Act.put,List.setIfInBounds_toArray,List.set_cons_zero,List.set_cons_succ]
    refine wpH_takes (i:=7) (v:=.bool true) (some 42) rfl rfl (by kernel_rfl) (by kernel_rfl) (by kernel_rfl) (fun _ _ _ h=>h) (Or.inl ⟨by rfl,?_⟩) hHeld ?_
    ·intro w' hSw;clear hSw;go_simp
    simp only [Act.put,List.setIfInBounds_toArray,List.set_cons_zero,List.set_cons_succ]
    refine wpH_takes (i:=8) (v:=.bool true) (some 43) rfl rfl (by kernel_rfl) (by kernel_rfl) (by kernel_rfl) (fun _ _ _ h=>h) (Or.inl ⟨by rfl,?_⟩) hHeld ?_
    ·intro w' hSw;clear hSw;go_simp
    simp only [Act.put,List.setIfInBounds_toArray,List.set_cons_zero,List.set_cons_succ]
    refine wpH_takes (i:=9) (v:=.pointer (some ⟨r,0,none⟩)) (some 44) rfl rfl (by kernel_rfl) (by kernel_rfl) (by kernel_rfl) (fun _ _ _ h=>h) (Or.inl ⟨by rfl,?_⟩) hHeld ?_
    ·intro w' hSw;clear hSw;go_simp
    simp only [Act.put,List.setIfInBounds_toArray,List.set_cons_zero,List.set_cons_succ]
    refine wpH_takes (i:=10) (v:=.pointer (some ⟨r,0,none⟩)) (some 45) rfl rfl (by kernel_rfl) (by kernel_rfl) (by kernel_rfl) (fun _ _ _ h=>h) (Or.inl ⟨by rfl,?_⟩) hHeld ?_
    ·intro w' hSw;clear hSw;go_simp
    simp only [Act.put,List.setIfInBounds_toArray,List.set_cons_zero,List.set_cons_succ]
    refine wpH_takes (i:=11) (v:=.pointer (some ⟨r,0,none⟩)) (some 46) rfl rfl (by kernel_rfl) (by kernel_rfl) (by kernel_rfl) (fun _ _ _ h=>h) (Or.inl ⟨by rfl,?_⟩) hHeld ?_
    ·intro w' hSw;clear hSw;go_simp
    simp only [Act.put,List.setIfInBounds_toArray,List.set_cons_zero,List.set_cons_succ]
    refine wpH_takes (i:=12) (v:=.slice (some ⟨b,0,none⟩) n cp) (some 47) rfl rfl (by kernel_rfl) (by kernel_rfl) (by kernel_rfl) (fun _ _ _ h=>h) (Or.inl ⟨by rfl,?_⟩) hHeld ?_
    ·intro w' hSw;have s0:=HA.out w' hSw;clear hSw;go_simp
    simp only [Act.put,List.setIfInBounds_toArray,List.set_cons_zero,List.set_cons_succ]
    refine wpH_takes (i:=13) (v:=.int .i64 (lo:Nat)) (some 48) rfl rfl (by kernel_rfl) (by kernel_rfl) (by kernel_rfl) (fun _ _ _ h=>h) (Or.inl ⟨by rfl,?_⟩) hHeld ?_
    ·intro w' hSw;clear hSw;go_simp
    simp only [Act.put,List.setIfInBounds_toArray,List.set_cons_zero,List.set_cons_succ]
    refine wpH_takes (i:=14) (v:=.pointer (some ⟨b,lo * 23,none⟩)) (some 49) rfl rfl (by kernel_rfl) (by kernel_rfl) (by kernel_rfl) (fun _ _ _ h=>h) (Or.inl ⟨by rfl,?_⟩) hHeld ?_
    ·intro w' hSw;clear hSw;go_simp
    simp only [Act.put,List.setIfInBounds_toArray,List.set_cons_zero,List.set_cons_succ]
    refine wpH_takes (i:=15) (v:=.pointer (some ⟨b,lo * 23,none⟩)) (some 50) rfl rfl (by kernel_rfl) (by kernel_rfl) (by kernel_rfl) (fun _ _ _ h=>h) (Or.inl ⟨by rfl,?_⟩) hHeld ?_
    ·intro w' hSw;clear hSw;go_simp
    simp only [Act.put,List.setIfInBounds_toArray,List.set_cons_zero,List.set_cons_succ]
    refine wpH_takes (i:=16) (v:=.agg #[.int .i64 x.1.1,.int .i64 x.1.2]) (some 51) rfl rfl (by kernel_rfl) (by kernel_rfl) (by kernel_rfl) (fun _ _ _ h=>h) (Or.inl ⟨by rfl,fun w' hSw=>exec_load_row 36 (.tmp 50) rfl b (lo * 23) rfl [.int .i64 x.1.1,.int .i64 x.1.2] _ (HRx.out w' hSw) Tryz.underlying36 rfl infoAddr2⟩) hHeld ?_
    simp only [Act.put,List.setIfInBounds_toArray,List.set_cons_zero,List.set_cons_succ]
    refine wpH_takes (i:=17) (v:=.agg #[.int .i64 c,.int .i64 s]) (some 52) rfl rfl (by kernel_rfl) (by kernel_rfl) (by kernel_rfl) (fun _ _ _ h=>h) (Or.inl ⟨by rfl,fun w' hSw=>exec_load_row 36 (.tmp 3) rfl w.heap.size 0 rfl [.int .i64 c,.int .i64 s] _ (blk_range (HC.out w' hSw)) Tryz.underlying36 rfl infoAddr2⟩) hHeld ?_
    simp only [Act.put,List.setIfInBounds_toArray,List.set_cons_zero,List.set_cons_succ]
    refine wpH_takes (i:=18) (v:=.bool E) (some 53) rfl rfl (by kernel_rfl) (by kernel_rfl) (by kernel_rfl) (fun _ _ _ h=>h) (Or.inl ⟨by rfl,?_⟩) hHeld ?_
    ·intro w' hSw;have s0:=HEq.out;clear hSw;go_simp
    simp only [Act.put,List.setIfInBounds_toArray,List.set_cons_zero,List.set_cons_succ]
    refine wpH_takes (i:=19) (v:=.bool E) (some 54) rfl rfl (by kernel_rfl) (by kernel_rfl) (by kernel_rfl) (fun _ _ _ h=>h) (Or.inl ⟨by rfl,?_⟩) hHeld ?_
    ·intro w' hSw;clear hSw;go_simp
    simp only [Act.put,List.setIfInBounds_toArray,List.set_cons_zero,List.set_cons_succ]
    refine wpH_takes (i:=20) (v:=.int .i64 (lo:Nat)) (some 4) rfl rfl (by kernel_rfl) (by kernel_rfl) (by kernel_rfl) (fun _ _ _ h=>h) (Or.inl ⟨by rfl,?_⟩) hHeld ?_
    ·intro w' hSw;clear hSw;go_simp
    simp only [Act.put,List.setIfInBounds_toArray,List.set_cons_zero,List.set_cons_succ]
    refine wpH_takes (i:=21) (v:=.bool E) (some 5) rfl rfl (by kernel_rfl) (by kernel_rfl) (by kernel_rfl) (fun _ _ _ h=>h) (Or.inl ⟨by rfl,?_⟩) hHeld ?_
    ·intro w' hSw;clear hSw;go_simp
    simp only [Act.put,List.setIfInBounds_toArray,List.set_cons_zero,List.set_cons_succ]
    refine wpAnyH_done (by kernel_rfl) ?_ _
    refine NoPanic.normal ?_
    go_wp2_with fail
    refine bodyPost_ret (results_tmp2 rfl _ _ _) rfl ?_
    exact ⟨⟨lo,by rw [HIs.out];rfl,HPl.out⟩,HK0.out.trans HKr.out.drew⟩
   ·have hln:lo=n:=Nat.le_antisymm HHI.out (Nat.not_lt.1 hl)
    subst hln
    have HIs:Hid (isK K lo (c,s)=false):=by
     show _=_
     unfold isK
     rw [List.getElem?_eq_none (by have:=HN.out.1;omega)]
    clear hl
    go_wp2_with fail
    refine wp_region_noPanic ?_
    refine wp_region_hel (fun w':World=>Kp W w' Nul) (by kernel_rfl) (HKr.out.drew) (fun hHeld=>?_)
    refine wpH_takes (i:=0) (v:=.int .i64 (lo:Nat)) (some 35) rfl rfl (by kernel_rfl) (by kernel_rfl) (by kernel_rfl) (fun _ _ _ h=>h) (Or.inl ⟨by rfl,?_⟩) hHeld ?_
    ·intro w' hSw;clear hSw;go_simp
    simp only [Act.put,List.setIfInBounds_toArray,List.set_cons_zero,List.set_cons_succ]
    refine wpH_takes (i:=1) (v:=.int .i64 (lo:Nat)) (some 36) rfl rfl (by kernel_rfl) (by kernel_rfl) (by kernel_rfl) (fun _ _ _ h=>h) (Or.inl ⟨by rfl,?_⟩) hHeld ?_
    ·intro w' hSw;clear hSw;go_simp
    simp only [Act.put,List.setIfInBounds_toArray,List.set_cons_zero,List.set_cons_succ]
    refine wpH_takes (i:=2) (v:=.pointer (some ⟨r,0,none⟩)) (some 37) rfl rfl (by kernel_rfl) (by kernel_rfl) (by kernel_rfl) (fun _ _ _ h=>h) (Or.inl ⟨by rfl,?_⟩) hHeld ?_
    ·intro w' hSw;clear hSw;go_simp
    simp only [Act.put,List.setIfInBounds_toArray,List.set_cons_zero,List.set_cons_succ]
    refine wpH_takes (i:=3) (v:=.pointer (some ⟨r,0,none⟩)) (some 38) rfl rfl (by kernel_rfl) (by kernel_rfl) (by kernel_rfl) (fun _ _ _ h=>h) (Or.inl ⟨by rfl,?_⟩) hHeld ?_
    ·intro w' hSw;clear hSw;go_simp
    simp only [Act.put,List.setIfInBounds_toArray,List.set_cons_zero,List.set_cons_succ]
    refine wpH_takes (i:=4) (v:=.pointer (some ⟨r,0,none⟩)) (some 39) rfl rfl (by kernel_rfl) (by kernel_rfl) (by kernel_rfl) (fun _ _ _ h=>h) (Or.inl ⟨by rfl,?_⟩) hHeld ?_
    ·intro w' hSw;clear hSw;go_simp
    simp only [Act.put,List.setIfInBounds_toArray,List.set_cons_zero,List.set_cons_succ]
    refine wpH_takes (i:=5) (v:=.slice p lo cp) (some 40) rfl rfl (by kernel_rfl) (by kernel_rfl) (by kernel_rfl) (fun _ _ _ h=>h) (Or.inl ⟨by rfl,?_⟩) hHeld ?_
    ·intro w' hSw;have s0:=HA.out w' hSw;clear hSw;go_simp
    simp only [Act.put,List.setIfInBounds_toArray,List.set_cons_zero,List.set_cons_succ]
    refine wpH_takes (i:=6) (v:=.int .i64 (lo:Nat)) (some 41) rfl rfl (by kernel_rfl) (by kernel_rfl) (by kernel_rfl) (fun _ _ _ h=>h) (Or.inl ⟨by rfl,?_⟩) hHeld ?_
    ·intro w' hSw;clear hSw;go_simp
    simp only [Act.put,List.setIfInBounds_toArray,List.set_cons_zero,List.set_cons_succ]
    refine wpH_takes (i:=7) (v:=.bool false) (some 42) rfl rfl (by kernel_rfl) (by kernel_rfl) (by kernel_rfl) (fun _ _ _ h=>h) (Or.inl ⟨by rfl,?_⟩) hHeld ?_
    ·intro w' hSw;clear hSw;go_simp
    simp only [Act.put,List.setIfInBounds_toArray,List.set_cons_zero,List.set_cons_succ]
    refine wpH_takes (i:=8) (v:=.bool false) (some 43) rfl rfl (by kernel_rfl) (by kernel_rfl) (by kernel_rfl) (fun _ _ _ h=>h) (Or.inl ⟨by rfl,?_⟩) hHeld ?_
    ·intro w' hSw;clear hSw;go_simp
    simp only [Act.put,List.setIfInBounds_toArray,List.set_cons_zero,List.set_cons_succ]
    refine wpH_takes (i:=9) (v:=undef) (some 44) rfl rfl (by kernel_rfl) (by kernel_rfl) (by kernel_rfl) (fun _ _ _ h=>h) (Or.inr ⟨by rfl,rfl⟩) hHeld ?_
    simp only [Act.put,List.setIfInBounds_toArray,List.set_cons_zero,List.set_cons_succ]
    refine wpH_takes (i:=10) (v:=undef) (some 45) rfl rfl (by kernel_rfl) (by kernel_rfl) (by kernel_rfl) (fun _ _ _ h=>h) (Or.inr ⟨by rfl,rfl⟩) hHeld ?_
    simp only [Act.put,List.setIfInBounds_toArray,List.set_cons_zero,List.set_cons_succ]
    refine wpH_takes (i:=11) (v:=undef) (some 46) rfl rfl (by kernel_rfl) (by kernel_rfl) (by kernel_rfl) (fun _ _ _ h=>h) (Or.inr ⟨by rfl,rfl⟩) hHeld ?_
    simp only [Act.put,List.setIfInBounds_toArray,List.set_cons_zero,List.set_cons_succ]
    refine wpH_takes (i:=12) (v:=undef) (some 47) rfl rfl (by kernel_rfl) (by kernel_rfl) (by kernel_rfl) (fun _ _ _ h=>h) (Or.inr ⟨by rfl,rfl⟩) hHeld ?_
    simp only [Act.put,List.setIfInBounds_toArray,List.set_cons_zero,List.set_cons_succ]
    refine wpH_takes (i:=13) (v:=undef) (some 48) rfl rfl (by kernel_rfl) (by kernel_rfl) (by kernel_rfl) (fun _ _ _ h=>h) (Or.inr ⟨by rfl,rfl⟩) hHeld ?_
    simp only [Act.put,List.setIfInBounds_toArray,List.set_cons_zero,List.set_cons_succ]
    refine wpH_takes (i:=14) (v:=undef) (some 49) rfl rfl (by kernel_rfl) (by kernel_rfl) (by kernel_rfl) (fun _ _ _ h=>h) (Or.inr ⟨by rfl,rfl⟩) hHeld ?_
    simp only [Act.put,List.setIfInBounds_toArray,List.set_cons_zero,List.set_cons_succ]
    refine wpH_takes (i:=15) (v:=undef) (some 50) rfl rfl (by kernel_rfl) (by kernel_rfl) (by kernel_rfl) (fun _ _ _ h=>h) (Or.inr ⟨by rfl,rfl⟩) hHeld ?_
    simp only [Act.put,List.setIfInBounds_toArray,List.set_cons_zero,List.set_cons_succ]
    refine wpH_takes (i:=16) (v:=undef) (some 51) rfl rfl (by kernel_rfl) (by kernel_rfl) (by kernel_rfl) (fun _ _ _ h=>h) (Or.inr ⟨by rfl,rfl⟩) hHeld ?_
    simp only [Act.put,List.setIfInBounds_toArray,List.set_cons_zero,List.set_cons_succ]
    refine wpH_takes (i:=17) (v:=undef) (some 52) rfl rfl (by kernel_rfl) (by kernel_rfl) (by kernel_rfl) (fun _ _ _ h=>h) (Or.inr ⟨by rfl,rfl⟩) hHeld ?_
    simp only [Act.put,List.setIfInBounds_toArray,List.set_cons_zero,List.set_cons_succ]
    refine wpH_takes (i:=18) (v:=undef) (some 53) rfl rfl (by kernel_rfl) (by kernel_rfl) (by kernel_rfl) (fun _ _ _ h=>h) (Or.inr ⟨by rfl,rfl⟩) hHeld ?_
    simp only [Act.put,List.setIfInBounds_toArray,List.set_cons_zero,List.set_cons_succ]
    refine wpH_takes (i:=19) (v:=.bool false) (some 54) rfl rfl (by kernel_rfl) (by kernel_rfl) (by kernel_rfl) (fun _ _ _ h=>h) (Or.inl ⟨by rfl,?_⟩) hHeld ?_
    ·intro w' hSw;clear hSw;go_simp
    simp only [Act.put,List.setIfInBounds_toArray,List.set_cons_zero,List.set_cons_succ]
    refine wpH_takes (i:=20) (v:=.int .i64 (lo:Nat)) (some 4) rfl rfl (by kernel_rfl) (by kernel_rfl) (by kernel_rfl) (fun _ _ _ h=>h) (Or.inl ⟨by rfl,?_⟩) hHeld ?_
    ·intro w' hSw;clear hSw;go_simp
    simp only [Act.put,List.setIfInBounds_toArray,List.set_cons_zero,List.set_cons_succ]
    refine wpH_takes (i:=21) (v:=.bool false) (some 5) rfl rfl (by kernel_rfl) (by kernel_rfl) (by kernel_rfl) (fun _ _ _ h=>h) (Or.inl ⟨by rfl,?_⟩) hHeld ?_
    ·intro w' hSw;clear hSw;go_simp
    simp only [Act.put,List.setIfInBounds_toArray,List.set_cons_zero,List.set_cons_succ]
    refine wpAnyH_done (by kernel_rfl) ?_ _
    refine NoPanic.normal ?_
    go_wp2_with fail
    refine bodyPost_ret (results_tmp2 rfl _ _ _) rfl ?_
    exact ⟨⟨lo,by rw [HIs.out];rfl,HPl.out⟩,HK0.out.trans HKr.out.drew⟩
end Go.Proofs.YtlppcfeakakpfaaGreatDoor
namespace Go.Proofs.YtlppcfeakakpfaaGreatDoor
open Go.RowKit Go.Maps
theorem GridIn.far' {w w':World} {F S:Nat→Prop} {g:Nat} {L:List Cc} (h:GridIn w F g L) (k:Kp w w' S) (hS:∀ i,F i → ¬ S i):GridIn w' F g L:=by
 obtain ⟨hF,⟨hb,e⟩|⟨m,D,hb,hm',hne,hown,hm⟩⟩:=h
 ·exact ⟨hF,.inl ⟨(k.block g (Array.getElem?_eq_some_iff.1 hb).1 (hS g hF)).trans hb,e⟩⟩
 ·exact ⟨hF,.inr ⟨m,D,(k.block g (Array.getElem?_eq_some_iff.1 hb).1 (hS g hF)).trans hb,hm',hne,ownsMap_block hown (k.block m hown.lt (hS m hm')),⟨hm.size,hm.rng,hm.keys,fun c r ct hc=>by obtain ⟨sl,e1,e2⟩:=hm.vals c r ct hc;exact ⟨sl,e1,e2.kp k hS⟩,hm.once⟩⟩⟩
theorem GridIn.once' {w:World} {F:Nat→Prop} {g:Nat} {L:List Cc} (h:GridIn w F g L):L.Pairwise (fun x y=>x.1≠y.1):=by
 obtain ⟨_,⟨_,rfl⟩|⟨m,D,_,_,_,_,hm⟩⟩:=h
 ·exact List.Pairwise.nil
 ·exact hm.once
section
variable {f:Fate} {w W W':World} {B xc xr:Nat} {cols:Bool} {at' n:Int} {g2:Nat} {K:List Cc} {k:Nat} {Z:Nat→Prop} {M:List Cc}
end
end Go.Proofs.YtlppcfeakakpfaaGreatDoor
namespace Go.Proofs.YtlppcfeakakpfaaGreatDoor
open Go.RowKit Go.Maps Go.Sort Go.Lib Go.Shelf
attribute [local go_sem] Oper.semAt_some
end Go.Proofs.YtlppcfeakakpfaaGreatDoor
namespace Go.Proofs.YtlppcfeakakpfaaGreatDoor
open Go.RowKit
theorem results_row_tmp {P:Program} {fn:Func} {p u:Tmp} {ty:TypeId} (h:fn.results=#[.cell p ty,.tmp u]) (tmps:Array Value) (w:World) (g:Nat) (t:TypeId) (cs:Array Value) (fr:Nat×Nat) (d:TypeDesc)
  (hp:tmps.getD p undef=.pointer (some ⟨g,0,none⟩)) (hg:w.heap[g]? = some (.cells cs t fr))
  (hu:P.underlying ty=some d) (hd:(match d with | .struct _ | .array _ _=>true|_=>false)=true) (hi:(P.info? ty).map (·.size)=some cs.size) :
  (results fn tmps).run P w=.ok (.tuple #[.agg cs,tmps.getD u undef]) w:=by
 have hp':tmps[p]?.getD undef=.pointer (some ⟨g,0,none⟩):=by simpa using hp
 simp [results,h,hp',asAddr,run_loadVar_row w g t ty cs fr d hg hu hd hi]
end Go.Proofs.YtlppcfeakakpfaaGreatDoor
namespace Go.Proofs.YtlppcfeakakpfaaGreatDoor
open Go.RowKit Go.Maps
theorem eqIn_nil2 (w:World) (d f:Nat) (lb:Array Value):(Op.equalIn (d+1) 55 (.func (.func f) #[] lb) .nilFunc).run Tryz.prog w=.ok false w:=by
 simp [Op.equalIn,run_underlying Tryz.underlying55]
theorem eq_nil2 (f:Nat) (lb:Array Value) (w:World):(binOp .eql 55 (.func (.func f) #[] lb) .nilFunc).run Tryz.prog w=.ok (.bool false) w:=by
 simp only [binOp]
 simp [show Op.equal 55 (.func (.func f) #[] lb) .nilFunc=Op.equalIn (9999+1) 55 (.func (.func f) #[] lb) .nilFunc from rfl,eqIn_nil2 w 9999 f lb]
@[go_sem] theorem field_v (v0 v1 v2 v3 v4 v5 v6 v7 v8 v9 v10 v11 v12 v13 v14 v15 v16 v17 v18 v19 v20:Value) (w:World):(Instr.field 46 (.agg #[v0,v1,v2,v3,v4,v5,v6,v7,v8,v9,v10,v11,v12,v13,v14,v15,v16,v17,v18,v19,v20]) 1).run Tryz.prog w=.ok (.agg #[v1,v2,v3,v4,v5]) w:=by
 unfold Instr.field
 rw [Sem.run_bind,run_underlying Tryz.underlying46 w]
 simp [part,asAgg,isAgg,run_underlying Tryz.underlying39 w,Sem.run_bind]
theorem zeroN_size {t:Nd} (h:zeroN t=true):t.size=1:=by
 obtain ⟨hd,ts⟩:=t
 unfold zeroN zNd at h
 rw [tsame] at h
 cases ts with
 | nil=>rw [Nd.size,sizeL]
 | cons a r=>simp [lsame] at h
theorem gv_size {c:Ct} (h:gv c=true):c.t.size≤1048576:=by
 unfold gv validC at h
 simp only [Bool.or_eq_true,Bool.and_eq_true] at h
 rcases h with (⟨_,_,h⟩|⟨_,_,h⟩)|⟨_,_,h⟩
 ·rw [zeroN_size h];decide
 ·rw [zeroN_size h];decide
 ·have e:chk c.t=0:=by simpa using h
  unfold chk at e
  by_cases q:256 < c.t.size
  ·rw [if_pos q] at e;omega
  ·omega
end Go.Proofs.YtlppcfeakakpfaaGreatDoor
namespace Go.Proofs.YtlppcfeakakpfaaGreatDoor
open Go.RowKit Go.Maps Go.Sort Go.Lib
theorem sm_not {w:World} {G:Nat→Prop} {g:Nat} {M:List Cc} (h:GridIn w G g M) {i:Nat} (hG:¬ G i):¬ Sm w g i:=by
 intro q
 rcases q with q|⟨q,_⟩
 ·exact hG (q ▸ h.1)
 ·obtain ⟨_,⟨hb,_⟩|⟨m,D,hb,hFm,_⟩⟩:=h
  ·rw [hb] at q;simp at q
  ·rw [hb] at q
   simp at q
   exact hG (q ▸ hFm)
theorem putL_len {M L:List Cc} {k:Int×Int} {ct:Ct} (hM:M.Pairwise (fun x y=>x.1≠y.1)) (hs:∀ y∈M,y∈L) (hk:(k,ct)∈L):(putL M k ct).length≤L.length:=by
 haveI:DecidableEq Cc:=fun a b=>Classical.propDecidable _
 refine nodup_le _ _ ?_ (fun y hy=>?_)
 ·unfold putL
  refine List.nodup_cons.2 ⟨fun q=>?_,?_⟩
  ·have:=of_decide_eq_true (List.mem_filter.1 q).2
   exact this rfl
  ·exact (List.Pairwise.filter _ hM).imp (fun {x y} q e=>q (by rw [e]))
 ·rcases (putL_mem y).1 hy with e|⟨e,_⟩
  ·rw [e];exact hk
  ·exact hs y e
structure Cl (w:World) (mv:Option Nat) (L:List Cc) (wr:World) (rem M:List Cc):Prop where
 rg:GRg wr w.heap.size mv (w.heap.size+1) rem
 gi:GridIn wr (fun i=>w.heap.size≤i∧i≠w.heap.size+1) w.heap.size M
 kp:Kp w wr Nul
 sub:∀ x,x∈rem→x∈L
 mem:∀ y,y∈M ↔ y∈L∧y ∉ rem
theorem clone_at (g:Nat) (L:List Cc) (w:World) (hg:GI 0 w g L) (hL:Ok17 L) :
  Calls Tryz.prog 26 #[.pointer (some ⟨g,0,none⟩)] w fun e w'=>∃ M,e=.returned (.pointer (some ⟨w.heap.size,0,none⟩))∧GridIn w' (fun i=>w.heap.size≤i) w.heap.size M∧(∀ y,y∈M ↔ y∈L)∧Kp w w' Nul:=by
 obtain ⟨mv,bg,_⟩:=gi_len hg
 have HNew:Hid (∀ w,Calls Tryz.prog 5 #[] w fun e w'=>e=.returned (.pointer (some ⟨w.heap.size,0,none⟩))∧w'=w.alloc (.cells #[.map none] 68)):=new_at
 have HG:Hid (GI 0 w g L):=hg
 have HOk:Hid (Ok17 L):=hL
 have HBg:Hid (Blk w g [.map mv] 68):=bg
 have hng:∀ (b:Nat) (wq:World),(binOp .eql 25 (.pointer (some ⟨b,0,none⟩)) (.pointer none)).run Tryz.prog wq=.ok (.bool false) wq:=fun b wq=>by simp [go_sem]
 clear hg hL bg
 go_enter Tryz.func26,Tryz.ntmps26
 go_wp2_with fail
 refine (HNew.out w).mono ?_
 rintro e W0 ⟨rfl,hW0⟩
 have k0:Kp w W0 Nul:=by rw [hW0];exact (Kp.refl _ _).alloc _
 have b0:Blk W0 w.heap.size [.map none] 68:=by rw [hW0];exact Blk.new w [.map none] _
 have s0:W0.heap.size=w.heap.size+1:=by rw [hW0,World.size_alloc]
 clear hW0
 have HLow:Hid (GridIn W0 (fun b=>b < w.heap.size) g L):=HG.out.low.kp k0
 have HBg2:Hid (Blk W0 g [.map mv] 68):=HBg.out.kp k0 (fun x=>x)
 have c0:W0.cell? ⟨g,0,none⟩=some (.map mv):=HBg2.out.cell rfl
 have HB0:Hid (Blk W0 w.heap.size [.map none] 68):=b0
 have HK0:Hid (Kp w W0 Nul):=k0
 have HS0:Hid (W0.heap.size=w.heap.size+1):=s0
 clear k0 b0 s0
 go_wp2_with (first
  | (at_range;refine wpList_range_grid _ rfl _ rfl g L mv w.heap.size rfl HLow.out HBg2.out ?_;intro w0 hrg0 hg0 hs0)
  | fail)
 have HStart:Hid (Cl w mv L w0 L []):=by
  have k0:Kp W0 w0 Nul:=Kp.of_grown hg0 (fun i e=>by cases e)
  rw [HS0.out] at hrg0
  refine ⟨hrg0,⟨⟨Nat.le_refl _,by omega⟩,.inl ⟨HB0.out.kp k0 (fun x=>x),rfl⟩⟩,HK0.out.trans k0,fun x h=>h,fun y=>⟨fun h=>by simp at h,fun h=>absurd h.1 h.2⟩⟩
 have hS0:=HS0.out
 rw [hS0]
 clear hrg0 hg0 hs0 c0 HLow HBg2 HB0 HK0 HS0 hS0 HNew
 go_frame
 go_loopw [] (fun wr=>∃ rem M,Cl w mv L wr rem M) (fun wr=>glen wr mv (w.heap.size+1))
 case atStart=>exact ⟨L,[],HStart.out⟩
 case round=>
  clear HStart
  obtain ⟨rem,M,hcl⟩:=hrel
  have HCl:Hid (Cl w mv L wr rem M):=hcl
  have HRG:Hid (GRg wr w.heap.size mv (w.heap.size+1) rem):=hcl.rg
  clear hcl
  go_wp2_with (first
   | (at_next;refine wpList_next_grid _ rfl _ rfl w.heap.size mv (w.heap.size+1) rem rfl HRG.out (by omega) ?_ ?_)
   | fail)
  ·intro hr0
   have HE:Hid (∃ M,GridIn wr (fun i=>w.heap.size≤i) w.heap.size M∧(∀ y,y∈M ↔ y∈L)∧Kp w wr Nul):=⟨M,GridIn.mono HCl.out.gi (fun _ h=>h.1),fun y=>by rw [HCl.out.mem,hr0];simp,HCl.out.kp⟩
   clear hr0
   go_wp2_with fail
   go_ret
   first
   | exact ⟨_,rfl,HE.out.choose_spec⟩
   | exact HE.out
  ·intro c s ct sl w1 hmem hin hrg1 hlt1 hgr1 hsz1 hen
   have kr:Kp wr w1 (fun i=>i=w.heap.size+1):=Kp.of_grown hgr1 (fun i e=>by cases e;rfl)
   have k1:Kp w w1 Nul:=HCl.out.kp.trans' kr (fun i hi e=>by have:i=w.heap.size+1:=e;omega)
   have g1:GridIn w1 (fun i=>w.heap.size≤i∧i≠w.heap.size+1) w.heap.size M:=HCl.out.gi.far' kr (fun i hi e=>hi.2 e)
   have hmL:=HCl.out.sub _ hmem
   have hvc:=HOk.out.at' _ hmL
   rw [vC_iff] at hvc
   simp only at hvc
   obtain ⟨X2,hX2⟩:∃ X2,(w1.alloc (.cells #[.int .i64 0,.int .i64 0] 36)).alloc (.cells zC21.toArray 46)=X2:=⟨_,rfl⟩
   obtain ⟨X3,hX3⟩:∃ X3,X2.setCells w1.heap.size 0 [.int .i64 c,.int .i64 s]=X3:=⟨_,rfl⟩
   obtain ⟨X4,hX4⟩:∃ X4,X3.setCells (w1.heap.size+1) 0 (ct.cells sl)=X4:=⟨_,rfl⟩
   have q2:Kp w1 X2 Nul:=by rw [← hX2];exact ((Kp.refl _ _).alloc _).alloc _
   have a2:Blk X2 w1.heap.size [.int .i64 0,.int .i64 0] 36:=by rw [← hX2];exact (Blk.new w1 [.int .i64 0,.int .i64 0] _).alloc _
   have c2:Blk X2 (w1.heap.size+1) zC21 46:=by
    have:=Blk.new (w1.alloc (.cells #[.int .i64 0,.int .i64 0] 36)) zC21 46
    rw [World.size_alloc] at this
    rw [← hX2];exact this
   have a3:Blk X3 w1.heap.size [.int .i64 c,.int .i64 s] 36:=by rw [← hX3];exact heap_setCells_whole (cs:=#[.int .i64 c,.int .i64 s]) a2 rfl
   have c3:Blk X3 (w1.heap.size+1) zC21 46:=by rw [← hX3];exact (heap_setCells_ne (by omega) _ _ _).trans c2
   have a4:Blk X4 w1.heap.size [.int .i64 c,.int .i64 s] 36:=by rw [← hX4];exact (heap_setCells_ne (by omega) _ _ _).trans a3
   have c4:Blk X4 (w1.heap.size+1) (ct.cells sl) 46:=by rw [← hX4];exact heap_setCells_whole (cs:=(ct.cells sl).toArray) c3 (by simp)
   have q4:Kp w1 X4 Nul:=(q2.trans' (hX3 ▸ setCells_kp (fun i=>i=w1.heap.size) rfl _ _ X2) (fun i hi e=>by have:i=w1.heap.size:=e;omega)).trans' (hX4 ▸ setCells_kp (fun i=>i=w1.heap.size+1) rfl _ _ X3) (fun i hi e=>by have:i=w1.heap.size+1:=e;omega)
   have HX3:Hid (((w1.alloc (.cells #[.int .i64 0,.int .i64 0] 36)).alloc (.cells zC21.toArray 46)).setCells w1.heap.size 0 [.int .i64 c,.int .i64 s]=X3):=by show _=_;rw [hX2];exact hX3
   have HX4:Hid (X3.setCells (w1.heap.size+1) 0 (ct.cells sl)=X4):=hX4
   have T2:Hid (((w1.alloc (.cells #[.int .i64 0,.int .i64 0] 36)).alloc (.cells zC21.toArray 46)).there w1.heap.size 0 2):=by rw [hX2];exact there_of_block a2 _ _ (by simp)
   have T3:Hid (X3.there (w1.heap.size+1) 0 21):=there_of_block c3 _ _ (by simp)
   have OS:Hid (sl.oneCell'=true):=hin.one
   have HQ4:Hid (Kp w1 X4 Nul):=q4
   have HA4:Hid (Blk X4 w1.heap.size [.int .i64 c,.int .i64 s] 36):=a4
   have HC4:Hid (Blk X4 (w1.heap.size+1) (ct.cells sl) 46):=c4
   have HG1:Hid (GRg w1 w.heap.size mv (w.heap.size+1) (rem.filter (fun x=>decide (x.1≠(c,s))))):=by show GRg _ _ _ _ _;simpa using hrg1
   have HLT:Hid (glen w1 mv (w.heap.size+1) < glen wr mv (w.heap.size+1)):=hlt1
   have HSZ:Hid (w.heap.size+1 < w1.heap.size):=by show _ < _;have:=HRG.out.lt;omega
   have HGi:Hid (GridIn w1 (fun i=>w.heap.size≤i∧i≠w.heap.size+1) w.heap.size M):=g1
   have HK1:Hid (Kp w w1 Nul):=k1
   have HML:Hid (((c,s),ct)∈L):=hmL
   have HMR:Hid (((c,s),ct)∈rem):=hmem
   have HI:Hid (I64 c∧I64 s):=by show _∧_;unfold I64;omega
   have HGd:Hid (Gd ct):=HOk.out.gd _ hmL
   have HCp:Hid (∀ wq,Kp X4 wq Nul→Calls Tryz.prog 38 #[.agg (ct.cells sl).toArray] wq fun e w'=>∃ sl' fp,e=.returned (ct.val sl')∧Own w' wq.heap.size sl' ct.t fp∧Kp wq w' Nul):=fun wq q=>by
    have h:=gCopy_at ct sl (fun b=>b < w.heap.size) wq HGd.out.x HGd.out.size HGd.out.ok (hin.kp (q4.trans q) (fun _ _ x=>x))
    rw [HGd.out.cp] at h
    exact h.mono fun e w' ⟨sl',fp,h1,h2,h3⟩=>⟨sl',fp,h1,h2,Kp.of_below h3⟩
   have HKeep:Hid (∀ wq sl',Kp X4 wq Nul→NdIn wq (fun i=>w.heap.size≤i∧i≠w.heap.size+1) sl' ct.t→Calls Tryz.prog 37 #[.pointer (some ⟨w.heap.size,0,none⟩),.agg #[.int .i64 c,.int .i64 s],ct.val sl'] wq fun e w'=>e=.returned (.tuple #[])∧GridIn w' (fun i=>w.heap.size≤i∧i≠w.heap.size+1) w.heap.size (putL M (c,s) ct)∧Km w.heap.size wq w'):=fun wq sl' q hi=>by
    have hlen:=putL_len (k:=(c,s)) (ct:=ct) HGi.out.once' (fun y hy=>((HCl.out.mem y).1 hy).1) HML.out
    have hll:=HOk.out.len
    have hsz:=q.size
    have hs4:=HC4.out.lt
    have hs1:=HSZ.out
    exact keep_m _ w.heap.size c s HI.out.1 HI.out.2 ct sl' M wq (HGi.out.kp (HQ4.out.trans q)) (by omega) hi (fun i hi=>⟨by omega,by omega⟩)
   clear hrg1 hlt1 hgr1 hsz1 hmem hin hX2 hX3 hX4 q2 a2 c2 a3 c3 a4 c4 q4 k1 kr g1 hmL hvc
   go_wp2_with (first
    | (refine wpList_store_to rfl 36 (.tmp 4) (.tmp 17) rfl w1.heap.size 0 _ rfl rfl T2.out infoAddr2 (by simp [Value.oneCell']) X3 HX3.out ?_)
    | (refine wpList_store_to rfl 46 (.tmp 5) (.tmp 18) rfl (w1.heap.size+1) 0 _ rfl rfl T3.out infoContent (ct.one OS.out) X4 HX4.out ?_)
    | fail)
   refine wp_region_but (fun w':World=>Kp X4 w' Nul) 4 (by kernel_rfl) ((Kp.refl _ _).drew) (fun hHeld=>?_)
   refine wpBut_takes (i:=0) (v:=.pointer (some ⟨w.heap.size,0,none⟩)) (some 19) rfl rfl (by kernel_rfl) (by kernel_rfl) (by kernel_rfl) (by kernel_rfl) (fun _ _ _ h=>h) (Or.inl ⟨by rfl,?_⟩) hHeld ?_
   ·intro w' hSw;clear hSw;go_simp
   simp only [Act.put,List.setIfInBounds_toArray,List.set_cons_zero,List.set_cons_succ]
   refine wpBut_takes (i:=1) (v:=.agg #[.int .i64 c,.int .i64 s]) (some 20) rfl rfl (by kernel_rfl) (by kernel_rfl) (by kernel_rfl) (by kernel_rfl) (fun _ _ _ h=>h) (Or.inl ⟨by rfl,fun w' hSw=>exec_load_row 36 (.tmp 4) rfl w1.heap.size 0 rfl [.int .i64 c,.int .i64 s] _ (blk_range (HA4.out.kp hSw (fun x=>x))) Tryz.underlying36 rfl infoAddr2'⟩) hHeld ?_
   simp only [Act.put,List.setIfInBounds_toArray,List.set_cons_zero,List.set_cons_succ]
   refine wpBut_step (i:=2) (by kernel_rfl) rfl rfl (fun K hK=>?_)
   unfold Oper.wp
   rw [exec_load_row 46 (.tmp 5) rfl (w1.heap.size+1) 0 rfl (ct.cells sl) _ (blk_range (HC4.out.kp ((Kp.refl X4 Nul).drew) (fun x=>x))) Tryz.underlying46 rfl infoContent]
   refine hK.out _ _ (fun _=>(Kp.refl X4 Nul).drew) (fun _=>?_)
   clear hK K
   (try simp only [Act.put,List.setIfInBounds_toArray])
   refine wpBut_step (i:=3) (by kernel_rfl) rfl rfl (fun K hK=>?_)
   go_simp
   refine (HCp.out _ ((Kp.refl X4 Nul).drew)).mono ?_
   rintro e v1 ⟨sl',fp,rfl,hown,hk2⟩
   have L1:Hid (Kp X4 v1 Nul):=(Kp.refl X4 Nul).drew.trans hk2
   have HN1:Hid (NdIn v1 (fun i=>w.heap.size≤i∧i≠w.heap.size+1) sl' ct.t):=hown.own.isIn (fun b hb=>by
    have h1:X4.heap.size≤b:=(hown.new b hb).1
    have hs4:=HC4.out.lt
    have hs1:=HSZ.out
    exact ⟨by omega,by omega⟩)
   refine hK.out _ _ (fun _=>L1.out) (fun _=>?_)
   clear hK K hk2 hown hHeld
   (try simp only [Act.put,List.setIfInBounds_toArray,List.set_cons_zero,List.set_cons_succ])
   refine wpBut_step (i:=4) (by kernel_rfl) rfl rfl (fun K hK=>?_)
   go_simp
   refine (HKeep.out v1 sl' L1.out HN1.out).mono ?_
   rintro e v2 ⟨rfl,hg2,hkm⟩
   have HEND:Hid (Cl w mv L v2 (rem.filter (fun x=>decide (x.1≠(c,s)))) (putL M (c,s) ct)∧glen v2 mv (w.heap.size+1) < glen wr mv (w.heap.size+1)):=by
    have gv:=HGi.out.kp (HQ4.out.trans L1.out)
    have kk:=hkm.kp
    have kw:=HQ4.out.trans L1.out
    have no:∀ i,i < w.heap.size+2→i≠w.heap.size → ¬ Sm v1 w.heap.size i:=fun i hi hn=>sm_not gv (fun q=>by have:=q.1;have:=q.2;omega)
    have hs1:=HSZ.out
    have hbl:Below w.heap.size w1 v2:=⟨kk.os.trans kw.os,kk.tape.trans kw.tape,kk.output.trans kw.output,Nat.le_trans kw.size kk.size,fun i hi=>(kk.block i (by have:=kw.size;omega) (no i (by omega) (by omega))).trans (kw.block i (by omega) (fun x=>x))⟩
    have hr:v2.heap[w.heap.size+1]? = w1.heap[w.heap.size+1]?:=(kk.block _ (by have:=kw.size;omega) (no _ (by omega) (by omega))).trans (kw.block _ (by omega) (fun x=>x))
    refine ⟨⟨HG1.out.keep hbl hr,hg2,(HK1.out.trans kw).trans' kk (fun i hi=>no i (by omega) (by omega)),fun x hx=>HCl.out.sub x (List.mem_filter.1 hx).1,fun y=>?_⟩,by rw [HG1.out.glen hbl hr];exact HLT.out⟩
    rw [putL_mem,HCl.out.mem]
    constructor
    ·rintro (e|⟨⟨e1,e2⟩,_⟩)
     ·rw [e]
      exact ⟨HML.out,fun q=>of_decide_eq_true (List.mem_filter.1 q).2 rfl⟩
     ·exact ⟨e1,fun q=>e2 (List.mem_filter.1 q).1⟩
    ·rintro ⟨e1,e2⟩
     by_cases e:y.1=(c,s)
     ·left
      have hy:((c,s),y.2)∈L:=by rw [← e];exact e1
      have:=once_eq HG.out.once hy HML.out
      exact Prod.ext e this
     ·exact .inr ⟨⟨e1,fun q=>e2 (List.mem_filter.2 ⟨q,decide_eq_true e⟩)⟩,e⟩
   refine hK.out _ _ (fun h=>absurd rfl h) (fun _=>?_)
   clear hK K hg2 hkm
   (try simp only [Act.put,List.setIfInBounds_toArray,List.set_cons_zero,List.set_cons_succ])
   refine wpBut_done (by kernel_rfl) ?_
   go_wp2_with fail
   go_roundw
   case rel=>exact ⟨_,_,HEND.out.1⟩
   case measure=>exact HEND.out.2
end Go.Proofs.YtlppcfeakakpfaaGreatDoor
