import Derived.Test.YtpdbolihakojcaaGreatDoorPkm
import Derived.Test.YtpdbolihakojcaaGreatDoorPkn
import Derived.Deep.DeepCutAuto
namespace Go.Proofs.YtpdbolihakojcaaGreatDoor
set_option maxRecDepth 20000
set_option linter.unusedVariables false
set_option linter.unusedSimpArgs false
set_option maxHeartbeats 4000000
open Go.RowKit
variable {W Y w w' w0 wr : World} {b : List UInt8} {A B at_ base' c cap e f g gs i j k lo m n u z : Nat} {R d is l : List Nat} {E G I J K L M N O v0 v1 v2 v3 v4 v5 v6 x y : Value} {o : Oper} {Q : Exit → Act → World → Prop} {bvs xs : List Value} {t : TypeId} {cs tmps : Array Value} {p : Addr} {a : Option Addr} {first ok : Bool} {s : ByteArray} {rs : List (List Nat)}
def ml0(m:IM):List Value:=[.int .u32 (m.uid:Int),.int .i64 0,.int .u32 0,.slice none 0 0,.slice none 0 0,.int .i64 (m.stamp:Int),.int .u32 (m.flags:Int),.int .i64 (m.bare:Int),.int .i64 (m.size:Int),.bool false,.string ⟨#[]⟩]
abbrev iF(w:World)(base:Nat)(v:Value)(ms:List IM):Prop:=b9 w base 54 11 v (ms.map ml0)
def jY(w:World)(base:Nat)(v:Value)(ds:List Nat):Prop:=b9 w base 28 1 v (ds.map fun d:Nat=>[.int .u32 (d:Int)])
theorem sX{ms:List IM}(h:∀i (z:i<ms.length),i<j→ms[i].uid≠u)(A:j<ms.length)(e:ms[j].uid=u):ja ms u=some j:=by
 unfold ja;rw[List.findIdx?_eq_some_iff_getElem];exact⟨A,by simpa using e,fun i z=>by simpa using h i (by omega) z⟩
theorem sW{ms:List IM}(h:∀i (z:i<ms.length),ms[i].uid≠u):ja ms u=none:=by
 unfold ja;rw[List.findIdx?_eq_none_iff];intro m A;obtain⟨i,z,rfl⟩:=ND.1 A;simpa using h i z
def plI(o:Option Nat):Int:=match o with
 |some i=>(i:Int)
 |none=> -1
theorem qC(L:Nat)(a:Option Addr)(cap:Nat)(ms:List IM)(u:Nat)(w:World)(R:ms.length≤1048576)(K:iF w L (.slice a ms.length cap) ms):
  Calls Tryz.prog 93 #[.slice a ms.length cap,.int .u32 (u:Int)] w fun e w'=>e= .returned (.int .i64 (plI (ja ms u)))∧w'=w:=by
 go_enter Tryz.func93,Tryz.ntmps93;go_wp2;go_loop [5,8] (fun _ i=>∃j:Nat,j≤ms.length∧i= .int .i64 j∧∀k (z:k<ms.length),k<j→ms[k].uid≠u) (fun _ i=>ms.length-(intOf i).toNat)
 case atStart=>exact⟨0,MQ _,rfl,fun k z h=>by omega⟩
 case round=>
  obtain⟨j,Q,rfl,A⟩:=hrel;by_cases J:j<ms.length
  ·obtain⟨g,rfl,_,_⟩:=K.at0 (by rw[MI];omega);have I:=K.cell j 0 (by rw[MI];exact J) (by simp[ml0]);simp only[MY,ml0,List.getElem_cons_zero,Nat.add_zero] at I;by_cases E:ms[j].uid=u
   ·have G:=a8 (sX A J E);rw[E] at I;clear E A;go_wp2;go_ret;exact⟨by rw[G.out];rfl,rfl⟩
   ·have M:¬(((ms[j].uid:Nat):Int)=(u:Int)):=(by omega);have N:=a8 (show∀k (z:k<ms.length),k<j+1→ms[k].uid≠u from fun k z O=>by
     by_cases e:k=j
     ·subst e;exact E
     ·exact A k z (by omega))
    generalize ms[j].uid=U at I M;clear E A;go_wp2;go_round
    case rel=>exact⟨j+1,by omega,by go_num,N.out⟩
    case measure=>simp[intOf];omega
  ·obtain rfl:j=ms.length:=(by omega);have G:=a8 (sW (fun k z=>A k z z));clear A;go_wp2;go_ret;exact⟨by rw[G.out];rfl,rfl⟩
theorem Js{ds:List Nat}{x:Nat}(h:∀i (z:i<ds.length),ds[i]≠x):decide (x∈ds)=false:=by
 rw[decide_eq_false_iff_not];intro A;obtain⟨i,z,e⟩:=ND.1 A;exact h i z e
theorem GY(L:Nat)(a:Option Addr)(cap:Nat)(ds:List Nat)(x:Nat)(w:World)(R:ds.length≤1048576)(K:jY w L (.slice a ds.length cap) ds):
  Calls Tryz.prog 68 #[.slice a ds.length cap,.int .u32 (x:Int)] w fun e w'=>e= .returned (.bool (decide (x∈ds)))∧w'=w:=by
 go_enter Tryz.func68,Tryz.ntmps68;go_wp2;go_loop [6,9] (fun _ i=>∃j:Nat,j≤ds.length∧i= .int .i64 j∧∀k (z:k<ds.length),k<j→ds[k]≠x) (fun _ i=>ds.length-(intOf i).toNat)
 case atStart=>exact⟨0,MQ _,rfl,fun k z h=>by omega⟩
 case round=>
  obtain⟨j,Q,rfl,A⟩:=hrel;by_cases J:j<ds.length
  ·obtain⟨g,rfl,_,_⟩:=b9.at0 K (by rw[MI];omega);have I:=b9.cell K j 0 (by rw[MI];exact J) (by simp);simp only[MY,List.getElem_cons_zero,Nat.add_zero,Nat.mul_one] at I;by_cases E:ds[j]=x
   ·have G:=a8 (decide_eq_true (show x∈ds from E▸MO J));rw[E] at I;clear E A;go_wp2;go_ret;exact⟨by rw[G.out];rfl,rfl⟩
   ·have M:¬((x:Int)=((ds[j]:Nat):Int)):=(by omega);have N:=a8 (show∀k (z:k<ds.length),k<j+1→ds[k]≠x from fun k z O=>by
     by_cases e:k=j
     ·subst e;exact E
     ·exact A k z (by omega))
    generalize ds[j]=U at I M;clear E A;go_wp2;go_round
    case rel=>exact⟨j+1,by omega,by go_num,N.out⟩
    case measure=>simp[intOf];omega
  ·obtain rfl:j=ds.length:=(by omega);have G:=a8 (Js (fun k z=>A k z z));clear A;go_wp2;go_ret;exact⟨by rw[G.out];rfl,rfl⟩
noncomputable def gP(u:Nat)(nm:ByteArray):Bool:=match fo nm.data.toList with
 |some c=>decide (u=0)||decide (c.1=u)
 |none=>false
noncomputable def eU(u:Nat)(ns:List ByteArray):List ByteArray:=ns.filter (gP u)
theorem DT{D:dQ}{u:Nat}(h:u≠0):eU u (D.names.map (·.1))=jj D u:=by
 unfold eU jj;congr 1;funext nm;unfold gP;cases fo nm.data.toList with
 |none=>rfl
 |some c=>
  have:decide (u=0)=false:=decide_eq_false h;simp only[this,Bool.false_or];by_cases e:c.1=u<;>simp[e]
theorem nr{nodes:Int}{z:List EN}(h:eL nodes z=true)(i:Nat)(G:i<z.length):z[i].1.size≤80:=by
 unfold eL at h;have A:=((of_decide_eq_true h).2 i G).1;unfold lA at A;have E:eO z[i].1=true:=(of_decide_eq_true A).1;unfold eO at E;exact(of_decide_eq_true E).2.1
theorem gF{α:Type}(l:List α)(j:Nat)(h:j<l.length):l.take (j+1)=l.take j++[l[j]]:=by rw[List.take_add_one,MM h];rfl
theorem qn{ns:List ByteArray}{nm:ByteArray}(h:gP u nm=true):eU u (ns++[nm])=eU u ns++[nm]:=by simp[eU,List.filter_append,h]
theorem rH{ns:List ByteArray}{nm:ByteArray}(h:gP u nm=false):eU u (ns++[nm])=eU u ns:=by simp[eU,List.filter_append,h]
theorem rG(u:Nat)(ns:List ByteArray):(eU u ns).length≤ns.length:=List.length_filter_le _ _
theorem sU{v:Value}{xs:List ByteArray}(h:gZ w z v xs)(J:Below w.heap.size w w'):gZ w' z v xs:=by
 refine⟨h.1,?_⟩;rcases h.2 with K|⟨g,cap,G,L,I,A,E⟩
 ·exact .inl K
 ·exact .inr ⟨g,cap,G,L,I,(J.block g (lt_of_block A)).trans A,E⟩
theorem vx(v:Value)(D:dQ)(A:Nat)(N:Int)(au:N=(A:Int))(w:World)(hv:eP D)(hd:km w v D):
  Calls Tryz.prog 65 #[v,.int .u32 N] w fun e w'=>∃u,e= .returned u∧gZ w' w.heap.size u (eU A (D.names.map (·.1)))∧Below w.heap.size w w':=by
 obtain⟨a1,c1,a2,c2,a3,c3,a4,c4,rfl,r1,r2,r3,r4⟩:=hd;have am:eL (D.nodes.length:Int) D.names=true:=hv.2.2.2.2.1;obtain⟨ay,aA,ar,az⟩:=gR am;have aw:=a8 (nr am);have ab:=a8 au;clear au;have av:=a8 r2;have HA:=a8 (nAl w (.cells #[.slice a1 D.nodes.length c1,.slice a2 D.names.length c2,.slice a3 D.kept.length c3,.slice a4 D.pend.length c4,.int .i64 D.quota] 37));have t1:(w.alloc (.cells #[.slice a1 D.nodes.length c1,.slice a2 D.names.length c2,.slice a3 D.kept.length c3,.slice a4 D.pend.length c4,.int .i64 D.quota] 37)).cell? ⟨w.heap.size,1,none⟩=some (.slice a2 D.names.length c2):=(dN w _ _).cell 1;have aE:D.names.length≤300:=ar;clear r1 r2 r3 r4 ay aA az am hv ar;generalize D.names=z at*;go_enter Tryz.func65,Tryz.ntmps65;go_wp2;generalize w.alloc (.cells #[.slice a1 D.nodes.length c1,.slice a2 z.length c2,.slice a3 D.kept.length c3,.slice a4 D.pend.length c4,.int .i64 D.quota] 37)=w0 at HA t1⊢;clear t1;go_loopw [5,7,8,12] (fun o _ _ i wr=>∃j:Nat,j≤z.length∧i= .int .i64 j∧gZ wr w.heap.size o (eU A ((z.take j).map (·.1)))∧Below w.heap.size w wr) (fun _ _ _ i _=>z.length-(intOf i).toNat)
 case atStart=>exact⟨0,MQ _,rfl,by simpa[eU] using gZ.nil w0 w.heap.size,HA.out⟩
 case round=>
  obtain⟨j,hj,rfl,Z,M⟩:=hrel;have aq:=rG A ((z.take j).map (·.1));rw[MI,MZ] at aq;by_cases al:j<z.length
  ·have aD:(j:Int)<(z.length:Int):=(by omega);obtain⟨b2,o2,e2,hc⟩:=(av.out.below M) (by omega)
   subst e2;obtain⟨k0,k1⟩:=hc j al;have aB:=aw.out j al;have Q:=a8 (show(z.take (j+1)).map (·.1)=(z.take j).map (·.1)++[z[j].1] by rw[gF z j al,MS];rfl);generalize z[j].1=nm at k0 aB Q;generalize z[j].2=nd at k1;have HB:=a8 M;have Y:=a8 Z;have ap:=nAl wr (.cells #[.string nm,.int .i64 nd] 93);have V:=a8 (dN wr #[.string nm,.int .i64 nd] 93);have aa:=a8 (show gZ (wr.alloc (.cells #[.string nm,.int .i64 nd] 93)) w.heap.size u5 (eU A ((z.take j).map (·.1))) from World.ownsRow.alloc Z _);have ad:=a8 (M.trans (ap.mono M.size));have e0:(wr.alloc (.cells #[.string nm,.int .i64 nd] 93)).cell? ⟨wr.heap.size,0,none⟩=some (.string nm):=V.out.cell 0;clear Z M ap hc;generalize hX:eU A ((z.take j).map (·.1))=xs at Y aa aq;have HX:=a8 hX;clear hX;go_wp2_with fail;generalize wr.alloc (.cells #[.string nm,.int .i64 nd] 93)=w1 at V aa ad e0⊢;refine(lY nm w1 (by omega)).mono ?_;rintro e O ⟨ok,u,s,f,rfl,ao,ak⟩;have an:=nAl O (.cells #[.bool ok,.int .u32 (u:Int),.int .i64 (s:Int),.int .u32 (f:Int)] 129);have ac:=ak.trans (an.mono ak.size);have M3:=dN O #[.bool ok,.int .u32 (u:Int),.int .i64 (s:Int),.int .u32 (f:Int)] 129;have I:=a8 (show gZ (O.alloc (.cells #[.bool ok,.int .u32 (u:Int),.int .i64 (s:Int),.int .u32 (f:Int)] 129)) w.heap.size u5 xs from sU aa.out ac);have G:=bTr ad ac;have aj:=(V.out.below ac V.out.lt).cell 0;have HC:=a8 (lK ao);clear ao ak an ac Y aa HB ad V e0;go_upto_region 6 with fail;generalize O.alloc (.cells #[.bool ok,.int .u32 (u:Int),.int .i64 (s:Int),.int .u32 (f:Int)] 129)=E at M3 I G aj⊢;obtain⟨m0,m1⟩:=M3.c2;have e0:E.cell? ⟨wr.heap.size,0,none⟩=some (.string nm):=aj;clear M3 aj;cases ok with
   |false=>
    have K:=a8 (show gP A nm=false by unfold gP;rw[HC.out];rfl);have L:=a8 (show eU A ((z.take (j+1)).map (·.1))=xs by rw[Q.out,rH K.out,HX.out]);go_wp2;go_roundw
    case rel=>exact⟨j+1,by omega,by go_num,by rw[L.out];exact I.out,G.out⟩
    case measure=>simp[intOf];omega
   |true=>
    by_cases h0:A=0
    ·have K:=a8 (show gP A nm=true by unfold gP;rw[HC.out];simp[h0]);obtain rfl:N=0:=(by rw[ab.out,h0];rfl);have L:=a8 (show eU A ((z.take (j+1)).map (·.1))=xs++[nm] by rw[Q.out,qn K.out,HX.out]);have ag:=a8 (show(E.alloc (.cells #[.string nm] 9)).cell? ⟨E.heap.size,0,none⟩=some (.string nm) from cell_of_row _ _ 0 _ _ _ (heap_alloc_new E (.cells #[.string nm] 9)));have J:=a8 (G.out.alloc G.out.size (.cells #[.string nm] 9));have ai:=a8 (show gZ (E.alloc (.cells #[.string nm] 9)) w.heap.size u5 xs from World.ownsRow.alloc I.out _);have af:=a8 (fun k hk=>(World.ownsRow.lt I.out k hk).1);clear G I;go_wp2_with (first
      |(at_builtin;refine iL _ rfl (.tmp 31) (.tmp 34) rfl w.heap.size u5 xs nm E.heap.size 1 rfl rfl ?_ ?_ ?_ ?_ ?_;(exact ai.out);(exact ag.out);(omega);(exact J.out.size);intro v4 w4 U R;have ah:=a8 U;have ae:=a8 R;clear U R)
      |go_in)
     go_roundw
     case rel=>exact⟨j+1,by omega,by go_num,by rw[L.out];exact ah.out,J.out.grown ae.out J.out.size af.out⟩
     case measure=>simp[intOf];omega
    ·have ax:¬N=0:=(by rw[ab.out];omega);by_cases hu:u=A
     ·have K:=a8 (show gP A nm=true by unfold gP;rw[HC.out];simp[hu]);obtain rfl:N=(u:Int):=(by rw[ab.out,hu]);clear hu;have L:=a8 (show eU A ((z.take (j+1)).map (·.1))=xs++[nm] by rw[Q.out,qn K.out,HX.out]);have ag:=a8 (show(E.alloc (.cells #[.string nm] 9)).cell? ⟨E.heap.size,0,none⟩=some (.string nm) from cell_of_row _ _ 0 _ _ _ (heap_alloc_new E (.cells #[.string nm] 9)));have J:=a8 (G.out.alloc G.out.size (.cells #[.string nm] 9));have ai:=a8 (show gZ (E.alloc (.cells #[.string nm] 9)) w.heap.size u5 xs from World.ownsRow.alloc I.out _);have af:=a8 (fun k hk=>(World.ownsRow.lt I.out k hk).1);clear G I;go_wp2_with (first
       |(at_builtin;refine iL _ rfl (.tmp 31) (.tmp 34) rfl w.heap.size u5 xs nm E.heap.size 1 rfl rfl ?_ ?_ ?_ ?_ ?_;(exact ai.out);(exact ag.out);(omega);(exact J.out.size);intro v4 w4 U R;have ah:=a8 U;have ae:=a8 R;clear U R)
       |go_in)
      go_roundw
      case rel=>exact⟨j+1,by omega,by go_num,by rw[L.out];exact ah.out,J.out.grown ae.out J.out.size af.out⟩
      case measure=>simp[intOf];omega
     ·have aF:((u:Int)==N)=false:=(by rw[ab.out];simp;omega);have aC:(N==0)=false:=(by simpa using ax);have K:=a8 (show gP A nm=false by unfold gP;rw[HC.out];simp[hu,h0]);have L:=a8 (show eU A ((z.take (j+1)).map (·.1))=xs by rw[Q.out,rH K.out,HX.out]);go_wp2;go_roundw
      case rel=>exact⟨j+1,by omega,by go_num,by rw[L.out];exact I.out,G.out⟩
      case measure=>simp[intOf];omega
  ·obtain rfl:j=z.length:=(by omega);have Y:=a8 Z;have HB:=a8 M;clear Z M;rw[NE] at Y;go_wp2;go_ret;exact⟨_,rfl,Y.out,HB.out⟩
theorem xF(i:Nat)(z:i<(dP d).1.length):(dP d).1[i].length≤40000:=by
 have h:=kj d;have E:∀(A:List (List Nat)) (i:Nat) (z:i<A.length),A[i].length≤lj A:=by
  intro A
  induction A with
  |nil=>intro i z;cases z
  |cons x r ih=>
   intro i z;cases i with
   |zero=>simp[lj]
   |succ i=>
    have:=ih i (by simpa using z);simp only[List.getElem_cons_succ,lj];omega
 have:=E _ i z;omega
theorem fw{α:Type}(l:List α)(j:Nat)(h:j<l.length):l.drop j=l[j]::l.drop (j+1):=Nl h
theorem D3{z:List (List Nat)}{c':Nat}(h:j<z.length)(e:eN first (gH z[j]) c=some c'):qV first (z.drop j) c=qV false (z.drop (j+1)) c':=by
 rw[fw z j h,qV,e]
theorem Jj{z:List (List Nat)}(h:j<z.length)(e:eN first (gH z[j]) c=none):qV first (z.drop j) c=none:=by
 rw[fw z j h,qV,e]
theorem Jz{α:Type}{l:List α}(h:l.length=2):∃x y,l=[x,y]:=by
 match l,h with
 |[x,y],_=>exact⟨x,y,rfl⟩
def Da(d:List Nat)(w:World)(e:Ending)(w':World):Prop:=(∃(c:Nat) (ok:Bool),e= .returned (.tuple #[.int .u32 (c:Int),.bool ok])∧c≤fY∧fN (dP d).1=if ok=true then some c else none)∧Below w.heap.size w w'
theorem xh(h:fX w a c d):Calls Tryz.prog 64 #[.slice a d.length c] w (Da d w):=by
 have HT:=a8 (fun(X:World) (U:Below w.heap.size w X)=>h.below U);have HU:=a8 (pl h);clear h;have aM:∀(a:Option Addr) (n c:Nat) (z:Int) (w:World),(Instr.field 116 (.agg #[.slice a n c,.int .i64 z]) 0).run Tryz.prog w= .ok (.slice a n c) w:=fun a n c z w=>(by kernel_rfl);go_enter Tryz.func64,Tryz.ntmps64;go_wp2_with fail;refine HU.out.mono ?_;rintro e w1 ⟨a1,c1,vs,rfl,ho,av⟩;have HL:=a8 (fun i hi=>xF (d:=d) i hi);have aD:=a8 av;have au:=a8 (kp.rows ⟨vs,ho⟩);have hn:(dP d).1.length≤40000:=(by have:=kj d;omega);have aj:=a8 (fun(X:World) (U:Below w.heap.size w X)=>pl (HT.out X U));unfold kI at aj;generalize az:(dP d).1=J at aj HL au hn⊢;have L:=a8 az;clear az ho av HU HT;go_wp2;go_loopw [4,5,6,7,8,9,14] (fun s4 _ _ _ _ _ i wr=>∃j E:Nat,j≤J.length∧i= .int .i64 j∧s4= .int .u32 (E:Int)∧E≤fY∧qV (decide (j=0)) (J.drop j) E=qV true J 0∧Below w.heap.size w wr∧Below w1.heap.size w1 wr) (fun _ _ _ _ _ _ i _=>J.length-(intOf i).toNat)
 case atStart=>exact⟨0,0,MQ _,rfl,rfl,MQ _,rfl,aD.out,MJ _ _⟩
 case round=>
  obtain⟨j,E,hj,rfl,rfl,al,am,ad,ab⟩:=hrel;have ag:=a8 ad;have ae:=a8 ab;have G:=a8 am;by_cases Z:j<J.length
  ·have aN:(j:Int)<(J.length:Int):=(by omega);obtain⟨b0,o0,e0,aw⟩:=(au.out.below ab) (by omega)
   subst e0;obtain⟨ai,ci,k0,ar⟩:=aw j Z;have aG:=HL.out j Z;have WD:=a8 (mG ai ci J[j] wr (by omega) ar);have ah:=a8 (fun first c'=>D3 (first:=first) (c:=E) (c':=c') Z);have N:=a8 (fun first=>Jj (first:=first) (c:=E) Z);generalize J[j]=r at k0 WD ah N aG;clear aw ar am ad ab;go_wp2_with fail;refine WD.out.mono ?_;rintro e w2 ⟨v2,ws,rfl,ay,ap,ak⟩;have M:=a8 (show ws.map (·.data.toList)=gH r from ap);have O:=bTr ag ak;have aq:=bTr ae ak;have ac:=ay.at;have aE:=a8 (show∀y∈ws,y.size≤40000 from fun y hy=>by
    have h1:=iz (b:=32) (t:=(fC r).data.toList) (w:=y.data.toList) (by rw[←ap];exact List.mem_map_of_mem hy);have h2:(fC r).data.toList.length=r.length:=iY r;have h3:y.data.toList.length=y.size:=rfl;omega)
   clear WD ap ak ay k0 ag ae;have Q:=a8 (show¬J=[] from fun e=>by rw[e] at Z;cases Z);by_cases ax:j=0
   ·subst ax;by_cases R:ws.length=1
    ·obtain⟨x,rfl⟩:=List.length_eq_one_iff.1 R;rcases ac with⟨_,U⟩|⟨g,cap,rfl,hg,_,af,K⟩
     ·cases U
     have q0:=K 0 x rfl;clear K R;by_cases I:x.data.toList=[66]
     ·have hq:(x.toList==[66])=true:=(by rw[ByteArray.toList_eq,I];rfl);have ao:(x.toList !=[66])=false:=(by rw[ByteArray.toList_eq,I];rfl);have HS:=a8 (G.out.symm.trans (ah.out true E (by unfold eN;rw[if_pos rfl,←M.out];simp[I])));clear I G;go_wp2;go_roundw
      case rel=>exact⟨1,E,by omega,by go_num,rfl,al,HS.out.symm,O.out,aq.out⟩
      case measure=>simp[intOf];omega
     ·have hq:(x.toList==[66])=false:=(by rw[ByteArray.toList_eq];simpa using I);have ao:(x.toList !=[66])=true:=(by rw[ByteArray.toList_eq];simpa using I);have A:=a8 (show fN (dP d).1=none by
       rw[L.out];unfold fN;rw[if_neg Q.out,←G.out];exact N.out true (by unfold eN;rw[if_pos rfl,←M.out];simp[I]))
      go_wp2;go_ret2;exact⟨⟨0,false,rfl,MQ _,by rw[A.out];rfl⟩,O.out⟩
    ·rcases ac with⟨rfl,rfl⟩|⟨g,cap,rfl,hg,_,af,K⟩
     ·have A:=a8 (show fN (dP d).1=none by
       rw[L.out];unfold fN;rw[if_neg Q.out,←G.out];exact N.out true (by unfold eN;rw[if_pos rfl,←M.out];simp))
      go_wp2;go_ret2;exact⟨⟨0,false,rfl,MQ _,by rw[A.out];rfl⟩,O.out⟩
     ·have an:¬((ws.length:Nat):Int)=1:=(by omega);have aH:(((ws.length:Nat):Int) !=1)=true:=(by simpa using an);clear K;have A:=a8 (show fN (dP d).1=none by
       rw[L.out];unfold fN;rw[if_neg Q.out,←G.out];exact N.out true (by
        unfold eN;rw[if_pos rfl,←M.out,if_neg];intro e;have:=congrArg List.length e;simp at this;exact R this))
      go_wp2;go_ret2;exact⟨⟨0,false,rfl,MQ _,by rw[A.out];rfl⟩,O.out⟩
   ·have aL:¬(j:Int)=0:=(by omega);have aF:decide (j=0)=false:=decide_eq_false ax;rw[aF] at G;by_cases R:ws.length=2
    ·obtain⟨x,y,rfl⟩:=Jz R;rcases ac with⟨_,U⟩|⟨g,cap,rfl,hg,_,af,K⟩
     ·cases U
     have q0:=K 0 x rfl;have q1:=K 1 y rfl;clear K R;by_cases I:x.data.toList=[67]
     ·have hq:(x.toList==[67])=true:=(by rw[ByteArray.toList_eq,I];rfl);have ao:(x.toList !=[67])=false:=(by rw[ByteArray.toList_eq,I];rfl);have aK:y.size≤1048576:=by
       have:=aE.out y (by simp);omega
      have N5:=a8 (fD y 1 4294967295 w2 aK (by omega));have HX:=a8 I;clear I;go_wp2_with fail;refine N5.out.mono ?_;rintro e w3 ⟨u,ok,rfl,hN,Y⟩;have V:=bTr O Y;have aA:=bTr aq Y;clear Y N5 q0 q1;cases ok with
      |false=>
       have aa:=a8 (fQ hN);clear hN;have A:=a8 (show fN (dP d).1=none by
        rw[L.out];unfold fN;rw[if_neg Q.out,←G.out];exact N.out false (by unfold eN;rw[if_neg (by simp),←M.out];simp[HX.out,aa.out]))
       go_wp2;go_ret2;exact⟨⟨0,false,rfl,MQ _,by rw[A.out];rfl⟩,V.out⟩
      |true=>
       have aa:=a8 (ew hN);obtain⟨aP,aQ⟩:=ef aa.out;clear hN;have aR:(u:Int)≤4294967295:=(by omega);by_cases aO:u≤E
       ·have aB:(u:Int)≤(E:Int):=(by omega);have aI:¬E<u:=(by omega);have A:=a8 (show fN (dP d).1=none by
         rw[L.out];unfold fN;rw[if_neg Q.out,←G.out];exact N.out false (by unfold eN;rw[if_neg (by simp),←M.out];simp[HX.out,aa.out,aI]))
        go_wp2;go_ret2;exact⟨⟨0,false,rfl,MQ _,by rw[A.out];rfl⟩,V.out⟩
       ·have aB:¬(u:Int)≤(E:Int):=(by omega);have aC:E<u:=(by omega);have HS:=a8 (G.out.symm.trans (ah.out false u (by unfold eN;rw[if_neg (by simp),←M.out];simp[HX.out,aa.out,aC])));clear G;go_wp2;go_roundw
        case rel=>exact⟨j+1,u,by omega,by go_num,by go_num,by omega,by rw[HS.out];rfl,V.out,aA.out⟩
        case measure=>simp[intOf];omega
     ·have hq:(x.toList==[67])=false:=(by rw[ByteArray.toList_eq];simpa using I);have ao:(x.toList !=[67])=true:=(by rw[ByteArray.toList_eq];simpa using I);have A:=a8 (show fN (dP d).1=none by
       rw[L.out];unfold fN;rw[if_neg Q.out,←G.out];exact N.out false (by unfold eN;rw[if_neg (by simp),←M.out];simp[I]))
      go_wp2;go_ret2;exact⟨⟨0,false,rfl,MQ _,by rw[A.out];rfl⟩,O.out⟩
    ·rcases ac with⟨rfl,rfl⟩|⟨g,cap,rfl,hg,_,af,K⟩
     ·have A:=a8 (show fN (dP d).1=none by
       rw[L.out];unfold fN;rw[if_neg Q.out,←G.out];exact N.out false (by unfold eN;rw[if_neg (by simp),←M.out];rfl))
      go_wp2;go_ret2;exact⟨⟨0,false,rfl,MQ _,by rw[A.out];rfl⟩,O.out⟩
     ·have an:¬((ws.length:Nat):Int)=2:=(by omega);have aH:(((ws.length:Nat):Int) !=2)=true:=(by simpa using an);clear K;have A:=a8 (show fN (dP d).1=none by
       rw[L.out];unfold fN;rw[if_neg Q.out,←G.out];exact N.out false (by
        unfold eN;rw[if_neg (by simp),←M.out];split
        ·next a b e=>
         have:=congrArg List.length e;simp at this;exact absurd this R
        ·rfl))
      go_wp2;go_ret2;exact⟨⟨0,false,rfl,MQ _,by rw[A.out];rfl⟩,O.out⟩
  ·obtain rfl:j=J.length:=(by omega);have HB:=a8 ad;clear am ad ab ag ae;rw[Nx] at G;go_wp2_with fail;refine(aj.out wr HB.out).mono ?_;rintro e w3 ⟨a3,c3,aS,rfl,aJ,Y⟩;have V:=bTr HB Y;clear aJ Y;by_cases h0:J=[]
   ·have A:=a8 (show fN (dP d).1=none by rw[L.out];unfold fN;rw[if_pos h0]);have hz:J.length=0:=(by rw[h0];rfl);rw[hz];clear h0 hz;go_wp2;go_ret2;exact⟨⟨E,false,rfl,al,by rw[A.out];rfl⟩,V.out⟩
   ·have A:=a8 (show fN (dP d).1=some E by rw[L.out];unfold fN;rw[if_neg h0,←G.out,qV]);have hz:(0:Int)<(J.length:Int):=(by have:=List.length_pos_iff.2 h0;omega);clear h0;go_wp2;go_ret2;exact⟨⟨E,decide (0<J.length),rfl,al,by rw[A.out,if_pos (by simpa using hz)]⟩,V.out⟩
def stI(s:IX)(mv:Value):Array Value:= #[.int .i64 0,.int .i64 1,.int .u32 (s.val:Int),.int .u32 (s.next:Int),.int .u32 0,.int .i64 (s.gen:Int),.int .i64 0,mv,.slice none 0 0]
abbrev StI(w:World)(g:Nat)(s:IX)(mv:Value):Prop:=Blk w g (stI s mv) 50
structure dV(gs B:Nat)(w w':World):Prop where
 os:w'.os=w.os
 tape:w'.tape=w.tape
 output:w'.output=w.output
 size:w.heap.size≤w'.heap.size
 block:∀k,k<B→k≠gs→w'.heap[k]? =w.heap[k]?
theorem dV.of_below(h:Below w.heap.size w w')(z:B≤w.heap.size):dV gs B w w':=⟨h.os,h.tape,h.output,h.size,fun k A _=>h.block k (by omega)⟩
theorem dV.trans{a b c:World}(h:dV gs B a b)(k:dV gs B b c):dV gs B a c:=
 ⟨k.os.trans h.os,k.tape.trans h.tape,k.output.trans h.output,MN h.size k.size,fun j z A=>(k.block j z A).trans (h.block j z A)⟩
theorem dV.set(h:dV gs B w w')(u:Value):dV gs B w (w'.setCell ⟨gs,j,none⟩ u):=
 ⟨h.os,h.tape,h.output,by simpa using h.size,fun k A z=>(heap_setCell_other w' ⟨gs,j,none⟩ k u (by simpa using z)).trans (h.block k A z)⟩
def vY(gs B:Nat)(first:Bool)(wsL:List (List UInt8))(s:IX)(w:World)(e:Ending)(w':World):Prop:=
 dV gs B w w'∧((∃s' mv',dU first wsL s=some s'∧e= .returned (.bool true)∧StI w' gs s' mv'∧iF w' B mv' s'.mails)∨(dU first wsL s=none∧e= .returned (.bool false)))
theorem GZ{α:Type}{l:List α}(h:l.length=4):∃x y z u,l=[x,y,z,u]:=by
 match l,h with
 |[x,y,z,u],_=>exact⟨x,y,z,u,rfl⟩
theorem zo{K x2 x3:List UInt8}{s:IX}{v n g:Nat}{z A E:Bool}(G:mf K 1 fY v z)(I:mf x2 1 fY n A)(J:mf x3 0 99999 g E):
  jP [[86],K,x2,x3] s=if(z&&A&&E)=true then some ⟨v,n,g,s.mails⟩ else none:=by
 unfold jP;cases z with
 |false=>simp[fQ G]
 |true=>
  cases A with
  |false=>simp[fQ I]
  |true=>
   cases E with
   |false=>simp[fQ J]
   |true=>simp[ew G,ew I,ew J]
theorem xk(gs B:Nat)(al:Nat)(v:Value)(ws:List ByteArray)(s:IX)(O:Value)(w:World)(L:StI w gs s O)(N:iF w B O s.mails)(av:gs<B)(hB:B≤w.heap.size)(G:gZ w al v ws)(ab:∀y∈ws,y.size≤40000):
  Calls Tryz.prog 60 #[.pointer (some ⟨gs,0,none⟩),.bool true,v] w (vY gs B true (ws.map (·.data.toList)) s w):=by
 have U:=a8 (show dV gs B w w from dV.of_below (MJ _ _) hB);have HS:=a8 L;have HM:=a8 N;by_cases hl:ws.length=4
 ·obtain⟨A,I,x2,x3,rfl⟩:=GZ hl;rcases G.at with⟨_,hb⟩|⟨g,cap,rfl,hg,_,am,z⟩
  ·cases hb
  by_cases E:A.data.toList=[86]
  ·have hq:(A.toList==[86])=true:=(by rw[ByteArray.toList_eq,E];rfl);have ap:(A.toList !=[86])=false:=(by rw[ByteArray.toList_eq,E];rfl);have q0:=z 0 A rfl;have q1:=z 1 I rfl;have q2:=z 2 x2 rfl;have Q:=z 3 x3 rfl;have A1:=a8 (fun(X:World)=>fD I 1 4294967295 X (by have:=ab I (by simp);omega) (by omega));have A2:=a8 (fun(X:World)=>fD x2 1 4294967295 X (by have:=ab x2 (by simp);omega) (by omega));have A3:=a8 (fun(X:World)=>fD x3 0 99999 X (by have:=ab x3 (by simp);omega) (by omega));have HX:=a8 E;have HW:=a8 G;clear z E L N G;go_enter Tryz.func60,Tryz.ntmps60;go_wp2_with fail;refine(A1.out w).mono ?_;rintro e w1 ⟨n1,k1,rfl,ai,K⟩;have af:=a8 ai;have ac:=a8 K;have q2:=(K.cell (p:=⟨g,0+2,none⟩) (by show g<w.heap.size;omega)).trans q2;have Q:=(K.cell (p:=⟨g,0+3,none⟩) (by show g<w.heap.size;omega)).trans Q;have au:=MW hg K.size;clear ai K A1 q0 q1;go_wp2_with fail;refine(A2.out w1).mono ?_;rintro e w2 ⟨n2,k2,rfl,aj,aa⟩;have ag:=a8 aj;have ad:=bTr ac aa;have Q:=(aa.cell (p:=⟨g,0+3,none⟩) (by show g<w1.heap.size;omega)).trans Q;clear aj aa A2 q2 ac;go_wp2_with fail;refine(A3.out w2).mono ?_;rintro e R ⟨n3,k3,rfl,ak,ah⟩;have an:=a8 ak;have V:=bTr ad ah;clear ak ah A3 Q ad;have S3:=HS.out.below V.out (by omega);obtain⟨-,-,c2,c3,-,c5⟩:=S3.c6;have fz:=fun j=>S3.fz j;have ae:=a8 (show iF R B O s.mails from HM.out.below V.out (MH _));have ao:=a8 S3;have Y:=a8 (show dV gs B w R from dV.of_below V.out hB);have HT:=a8 (zo (s:=s) af.out ag.out an.out);have HY:=a8 (show dU true ([A,I,x2,x3].map (·.data.toList)) s=jP [[86],I.data.toList,x2.data.toList,x3.data.toList] s by unfold dU;rw[if_pos rfl,←HX.out];rfl);clear S3 HS HM U V HW HX;by_cases J:(k1&&k2&&k3)=true
   ·have M:=a8 (HY.out.trans (HT.out.trans (if_pos J)));simp only[Bool.and_eq_true] at J;obtain⟨⟨rfl,rfl⟩,rfl⟩:=J;have b1:=(ef (ew af.out)).2;have b2:=(ef (ew ag.out)).2;have aq:(n1:Int)≤4294967295:=(by omega);have ar:(n2:Int)≤4294967295:=(by omega);go_wp2;go_ret;refine⟨((Y.out.set _).set _).set _,.inl ⟨_,O,M.out,rfl,?_,?_⟩⟩
    ·have h:=((ao.out.set 2 (.int .u32 (n1:Int))).set 3 (.int .u32 (n2:Int))).set 5 (.int .i64 (n3:Int));show Blk _ gs (stI ⟨n1,n2,n3,s.mails⟩ O) _;simpa[stI] using h
    ·refine b9.keep ae.out (fun k hk=> ?_);have:=(b9.lt ae.out k hk).1;rw[heap_setCell_other _ ⟨gs,5,none⟩ k _ (by simp;omega),heap_setCell_other _ ⟨gs,3,none⟩ k _ (by simp;omega),heap_setCell_other _ ⟨gs,2,none⟩ k _ (by simp;omega)]
   ·have M:=a8 (HY.out.trans (HT.out.trans (if_neg J)));cases k1 with
    |false=>
     go_wp2;go_ret;exact⟨((Y.out.set _).set _).set _,.inr ⟨M.out,rfl⟩⟩
    |true=>
     cases k2 with
     |false=>
      go_wp2;go_ret;exact⟨((Y.out.set _).set _).set _,.inr ⟨M.out,rfl⟩⟩
     |true=>
      cases k3 with
      |false=>
       go_wp2;go_ret;exact⟨((Y.out.set _).set _).set _,.inr ⟨M.out,rfl⟩⟩
      |true=>exact absurd rfl J
  ·have hq:(A.toList==[86])=false:=(by rw[ByteArray.toList_eq];simpa using E);have ap:(A.toList !=[86])=true:=(by rw[ByteArray.toList_eq];simpa using E);have Z:=a8 (show dU true ([A,I,x2,x3].map (·.data.toList)) s=none by unfold dU jP;simp[E]);have q0:=z 0 A rfl;clear z E L N G;go_enter Tryz.func60,Tryz.ntmps60;go_wp2;go_ret;exact⟨U.out,.inr ⟨Z.out,rfl⟩⟩
 ·have Z:=a8 (show dU true (ws.map (·.data.toList)) s=none by
   unfold dU jP;rw[if_pos rfl];split
   ·next a b c d e=>
    have:=congrArg List.length e;simp at this;exact absurd this hl
   ·rfl)
  have ax:(((ws.length:Nat):Int) !=4)=true:=(by simp;omega);have aw:¬((ws.length:Nat):Int)=4:=(by omega);rcases G.at with⟨rfl,rfl⟩|⟨g,cap,rfl,hg,_,am,z⟩
  ·clear L N G;go_enter Tryz.func60,Tryz.ntmps60;go_wp2;go_ret;exact⟨U.out,.inr ⟨Z.out,rfl⟩⟩
  ·clear L N G z;go_enter Tryz.func60,Tryz.ntmps60;go_wp2;go_ret;exact⟨U.out,.inr ⟨Z.out,rfl⟩⟩
theorem vA{α:Type}{l:List α}(h:l.length=3):∃x y z,l=[x,y,z]:=by
 match l,h with
 |[x,y,z],_=>exact⟨x,y,z,rfl⟩
theorem zn{I x2:List UInt8}{s:IX}{u f:Nat}{z A:Bool}(E:mf I 1 fY u z)(G:mf x2 0 2147483647 f A):
  dU false [[70],I,x2] s=if(z&&A)=true then(match ja s.mails u with
   |some i=>some {s with mails:=s.mails.modify i (fun m=>{m with flags:=f})}
   |none=>none) else none:=by
 unfold dU;rw[if_neg (by simp)];unfold me;rw[if_pos ⟨rfl,rfl⟩];unfold ol;cases z with
 |false=>simp[fQ E]
 |true=>
  cases A with
  |false=>simp[fQ G]
  |true=>
   simp only[ew E,ew G];rfl
theorem BR(ms:List IM)(i f:Nat):(ms.map ml0).modify i (fun x=>x.set 6 (.int .u32 (f:Int)))=(ms.modify i (fun m=>{m with flags:=f})).map ml0:=by
 apply List.ext_getElem?;intro n;rw[List.getElem?_modify,Nr,Nr,List.getElem?_modify];cases ms[n]? with
 |none=>rfl
 |some m=>
  simp only[Option.map_some];split<;>rfl
theorem EA(A:Nat)(a:Option Addr)(cap:Nat)(ms:List IM)(u:Nat)(z:Int)(I:z=(u:Int))(w:World)(E:ms.length≤1048576)(G:iF w A (.slice a ms.length cap) ms):
  Calls Tryz.prog 93 #[.slice a ms.length cap,.int .u32 z] w fun e w'=>e= .returned (.int .i64 (plI (ja ms u)))∧w'=w:=by
 subst I;exact qC A a cap ms u w E G
theorem Ab{ms:List IM}(h:ja ms u=some i):i<ms.length:=by
 unfold ja at h;rw[List.findIdx?_eq_some_iff_getElem] at h;exact h.1
theorem xi(gs B:Nat)(aj:Nat)(v:Value)(A E x2:ByteArray)(s:IX)(mv:Value)(w:World)(ah:StI w gs s mv)(hm:iF w B mv s.mails)(au:gs<B)(hB:B≤w.heap.size)(hw:gZ w aj v [A,E,x2])(ai:∀y∈[A,E,x2],y.size≤40000)(V:A.data.toList=[70])(ay:s.mails.length≤100):
  Calls Tryz.prog 60 #[.pointer (some ⟨gs,0,none⟩),.bool false,v] w (vY gs B false ([A,E,x2].map (·.data.toList)) s w):=by
 have HS:=a8 ah;have HM:=a8 hm;rcases hw.at with⟨_,hb⟩|⟨g,cap,rfl,hg,_,an,M⟩
 ·cases hb
 have hq:(A.toList==[70])=true:=(by rw[ByteArray.toList_eq,V];rfl);have az:(A.toList !=[70])=false:=(by rw[ByteArray.toList_eq,V];rfl);have q0:=M 0 A rfl;have q1:=M 1 E rfl;have q2:=M 2 x2 rfl;have A1:=a8 (fun(X:World)=>fD E 1 4294967295 X (by have:=ai E (by simp);omega) (by omega));have A2:=a8 (fun(X:World)=>fD x2 0 2147483647 X (by have:=ai x2 (by simp);omega) (by omega));have HX:=a8 V;clear M V ah hm hw;go_enter Tryz.func60,Tryz.ntmps60;go_wp2_with fail;refine(A1.out w).mono ?_;rintro e w1 ⟨K,k1,rfl,af,Y⟩;have ac:=a8 af;have aa:=a8 Y;have q2:=(Y.cell (p:=⟨g,0+2,none⟩) (by show g<w.heap.size;omega)).trans q2;clear af Y A1 q0 q1;go_wp2_with fail;refine(A2.out w1).mono ?_;rintro e L ⟨n2,k2,rfl,ag,ae⟩;have ad:=a8 ag;have N:=bTr aa ae;clear ag ae A2 q2 aa;have Z:=HS.out.below N.out (by omega);have G:=a8 (show iF L B mv s.mails from HM.out.below N.out (MH _));obtain⟨am,cm,rfl⟩:=G.out.slice;rw[MI] at*;obtain⟨-,-,-,-,-,-,-,c7⟩:=Z.c8;have z:=a8 (show dV gs B w L from dV.of_below N.out hB);have Q:=a8 (zn (s:=s) ac.out ad.out);have R:=a8 (show dU false ([A,E,x2].map (·.data.toList)) s=dU false [[70],E.data.toList,x2.data.toList] s by rw[←HX.out];rfl);have ak:=a8 Z;clear Z HS HM N HX;have U:=a8 (EA B am cm s.mails (K%4294967296) ((K:Int)%4294967296) (by omega) L (by omega) G.out);cases k1 with
 |false=>
  have J:=a8 (R.out.trans (Q.out.trans (if_neg (by simp))));go_wp2_with fail;refine U.out.mono ?_;rintro e w3 ⟨rfl,rfl⟩;go_wp2;go_ret;exact⟨z.out,.inr ⟨J.out,rfl⟩⟩
 |true=>
  have b1:=(ef (ew ac.out)).2;have ao:(K:Int)≤4294967295:=(by omega);have U:=a8 (qC B am cm s.mails K L (by omega) G.out);go_wp2_with fail;refine U.out.mono ?_;rintro e w3 ⟨rfl,rfl⟩;clear U;cases k2 with
  |false=>
   have J:=a8 (R.out.trans (Q.out.trans (if_neg (by simp))));go_wp2;go_ret;exact⟨z.out,.inr ⟨J.out,rfl⟩⟩
  |true=>
   have b2:=(ef (ew ad.out)).2;have ap:(n2:Int)≤2147483647:=(by omega);have O:=a8 (R.out.trans (Q.out.trans (if_pos rfl)));clear Q R;cases hp:ja s.mails K with
   |none=>
    rw[hp] at O;have J:=O;have I:plI none= -1:=rfl;rw[I];clear hp I;go_wp2;go_ret;exact⟨z.out,.inr ⟨J.out,rfl⟩⟩
   |some i=>
    rw[hp] at O;have al:i<s.mails.length:=Ab hp;have I:plI (some i)=(i:Int):=rfl;rw[I];have aw:¬(i:Int)<0:=(by omega);have ax:(i:Int)<(s.mails.length:Int):=(by omega);obtain⟨gm,rfl,ar,av⟩:=b9.at0 G.out (by rw[MI];omega);have hc:=b9.cell G.out i 6 (by rw[MI];exact al) (by simp[ml0]);simp only[MY,ml0,List.getElem_cons_succ,List.getElem_cons_zero] at hc;have hf:=b9.frozen G.out (i*11+6);have ab:=a8 (b9.store G.out i 6 (by omega) (.int .u32 (n2:Int)));rw[BR] at ab;generalize (s.mails[i].flags:Int)=aq at hc;clear hp I;go_wp2;go_ret;refine⟨?_,.inl ⟨_,_,O.out,rfl,?_,ab.out⟩⟩
    ·exact⟨z.out.os,z.out.tape,z.out.output,by simpa using z.out.size,fun k hk hn=>(heap_setCell_other w3 ⟨gm,i*11+6,none⟩ k _ (by simp;omega)).trans (z.out.block k hk hn)⟩
    ·have h:=ak.out.other (g':=gm) (j:=i*11+6) (by omega) (.int .u32 (n2:Int));exact h
theorem Jy{α:Type}{l:List α}(h:l.length=6):∃a b c d e f,l=[a,b,c,d,e,f]:=by
 match l,h with
 |[a,b,c,d,e,f],_=>exact⟨a,b,c,d,e,f,rfl⟩
theorem zp{Q x2 x3 x4 x5:List UInt8}{s:IX}{u t f n J:Nat}{z A E G I:Bool}(R:s.mails.length<100)(K:mf Q 1 4294967294 u z)(L:mf x2 0 1000000000000 t A)(M:mf x3 0 2147483647 f E)(N:mf x4 0 40000 n G)(O:mf x5 0 1 J I):
  dU false [[65],Q,x2,x3,x4,x5] s=if(z&&A&&E&&G&&I)=true then(if kz s.mails u=true then some {s with next:=if s.next≤u then u+1 else s.next,mails:=s.mails++[⟨u,t,f,n,J⟩]} else none) else none:=by
 unfold dU;rw[if_neg (by simp)];unfold me;rw[if_neg (by simp),if_pos ⟨rfl,rfl,R⟩];unfold it;rw[show fY-1=4294967294 from rfl];cases z with
 |false=>simp[fQ K]
 |true=>
  cases A with
  |false=>simp[fQ L]
  |true=>
   cases E with
   |false=>simp[fQ M]
   |true=>
    cases G with
    |false=>simp[fQ N]
    |true=>
     cases I with
     |false=>simp[fQ O]
     |true=>simp only[ew K,ew L,ew M,ew N,ew O];rfl
theorem Tryz.infoMailL:(Tryz.prog.info? 54).map (fun i=>(i.zero,i.size,i.bytes))=some (some (.agg #[.int .u32 0,.int .i64 0,.int .u32 0,.slice none 0 0,.slice none 0 0,.int .i64 0,.int .u32 0,.int .i64 0,.int .i64 0,.bool false,.string ⟨#[]⟩]),11,128):=by kernel_rfl
theorem gX{L:Array Oper}{K:List Oper}{E:Act}(w:World)(U:o.guard=none)(s x:Operand)
  (ho:o.op= .call {callee:= .builtin .append,args:= #[s,x],argTypes:= #[47,47]})
  (A:Nat) (v:Value) (ms:List IM) (m:IM) (I c:Nat) (hs:E.eval s=v) (hx:E.eval x= .slice (some ⟨I,0,none⟩) 1 c) (J:iF w A v ms)
  (hc:∀j u,(ml0 m)[j]? =some u→w.cell? ⟨I,j,none⟩=some u) (aa:ms.length≤1048576) (N:A≤w.heap.size)
  (h:∀G w',iF w' A G (ms++[m])→w.grownBy w' v.ownBlock→wpList Tryz.prog L Q K (E.put o.dst G) w'):wpList Tryz.prog L Q (o::K) E w:=by
 obtain⟨i0,hi,V,Y,Z⟩:=info_parts Tryz.infoMailL;have O:w.ownsRow A 54 11 v ms.length (ms.map ml0).flatten:=(by have:=J.2;rw[MI] at this;exact this);refine wpList_append_own w U s x 47 ho A 54 i0 (.agg #[.int .u32 0,.int .i64 0,.int .u32 0,.slice none 0 0,.slice none 0 0,.int .i64 0,.int .u32 0,.int .i64 0,.int .i64 0,.bool false,.string ⟨#[]⟩]) 11 128 Tryz.underlying47 hi V Y Z rfl (by decide) v ms.length (ms.map ml0).flatten hs O ⟨I,0,none⟩ 1 c (ml0 m) hx (by simp[ml0]) ?_ ?_ (by unfold maxLen;omega) (by omega) N ?_
 ·intro j u hj;rw[ej,Ng];exact hc j u hj
 ·intro u M;simp only[ml0,M1,Nw,or_false] at M;rcases M with rfl|rfl|rfl|rfl|rfl|rfl|rfl|rfl|rfl|rfl|rfl<;>rfl
 ·intro G w' R hg _;refine h G w' ⟨?_,?_⟩ hg
  ·intro y z;rw[MS,Nb] at z;rcases z with z|z
   ·exact J.1 y z
   ·simp only[M0,Ns,M9] at z;rw[z];rfl
  ·rw[MI,MT,MS,NG];simpa using R
theorem eA{v:Value}{A:List (List Value)}(h:b9 w z e k v A):∃a n c,v= .slice a n c:=by
 obtain⟨a,c,rfl⟩:=h.slice;exact⟨_,_,_,rfl⟩
theorem xa{s1:IX}{z:Value}{m:IM}{o:Obj}(R:StI W gs s1 G)(I:dV gs B w W)(O:gs<B)(V:B≤W.heap.size)(U:iF W B G s1.mails)(N:iF w' B z (s1.mails++[m]))(J:(W.alloc o).grownBy w' G.ownBlock):
  (dV gs B w (w'.setCell ⟨gs,7,none⟩ z)∧StI (w'.setCell ⟨gs,7,none⟩ z) gs {s1 with mails:=s1.mails++[m]} z∧iF (w'.setCell ⟨gs,7,none⟩ z) B z (s1.mails++[m]))∧w'.cell? ⟨gs,7,none⟩=some G∧w'.frozen? ⟨gs,7,none⟩=false:=by
 have Q:∀k,G.ownBlock=some k→B≤k:=fun k A=>(b9.lt U k A).1;have E:=nAl W o;have L:∀k,k<B→w'.heap[k]? =W.heap[k]? :=fun k A=>(J.block k (by have:=E.size;omega) (fun e=>by have:=Q k e.symm;omega)).trans (E.block k (by omega));have K:StI w' gs s1 G:=(L gs O).trans R;refine⟨⟨⟨?_,?_,?_,?_,?_⟩,?_,?_⟩,K.cell 7,K.fz 7⟩
 ·exact J.os.trans (E.os.trans I.os)
 ·exact J.tape.trans (E.tape.trans I.tape)
 ·exact J.output.trans (E.output.trans I.output)
 ·have Y:=J.size;have Z:=E.size;have h3:=I.size;simp only[World.size_setCell];omega
 ·intro k A M;rw[heap_setCell_other w' ⟨gs,7,none⟩ k z (by simpa using M)];exact(L k A).trans (I.block k A M)
 ·have h:=K.set 7 z;show Blk _ gs (stI _ z) _;simpa[stI] using h
 ·refine b9.keep N (fun k A=>heap_setCell_other w' ⟨gs,7,none⟩ k z ?_);have:=(b9.lt N k A).1;simp;omega
theorem E7{ms:List IM}(h:ms.length=0):kz ms u=true:=by
 rw[Nc.1 h];rfl
theorem Cb{ms:List IM}{L:Nat}(h:ms.length=L+1):kz ms u=decide ((ms[L]'(by omega)).uid<u):=by
 have e:ms.getLast? =some (ms[L]'(by omega)):=by
  rw[List.getLast?_eq_getElem?];have z:ms.length-1=L:=(by omega);rw[z];exact MM _
 unfold kz;rw[e]
theorem xl(gs B:Nat)(aQ:Nat)(v:Value)(x0 x1 x2 x3 x4 x5:ByteArray)(s:IX)(mv:Value)(w:World)(aD:StI w gs s mv)(hm:iF w B mv s.mails)(au:gs<B)(hB:B≤w.heap.size)(hw:gZ w aQ v [x0,x1,x2,x3,x4,x5])(aq:∀y∈[x0,x1,x2,x3,x4,x5],y.size≤40000)(hx:x0.data.toList=[65])(aT:s.mails.length<100):
  Calls Tryz.prog 60 #[.pointer (some ⟨gs,0,none⟩),.bool false,v] w (vY gs B false ([x0,x1,x2,x3,x4,x5].map (·.data.toList)) s w):=by
 have HS:=a8 aD;have HM:=a8 hm;obtain⟨am,E,rfl⟩:=hm.slice;rw[MI] at*;obtain⟨-,-,-,-,-,-,-,c7⟩:=aD.c8;rcases hw.at with⟨_,hb⟩|⟨g,cap,rfl,hg,_,aU,ah⟩
 ·cases hb
 have hq:(x0.toList==[65])=true:=(by rw[ByteArray.toList_eq,hx];rfl);have bg:(x0.toList !=[65])=false:=(by rw[ByteArray.toList_eq,hx];rfl);have aS:¬(100:Int)≤(s.mails.length:Int):=(by omega);have q0:=ah 0 x0 rfl;have q1:=ah 1 x1 rfl;have q2:=ah 2 x2 rfl;have q3:=ah 3 x3 rfl;have q4:=ah 4 x4 rfl;have q5:=ah 5 x5 rfl;have A1:=a8 (fun(X:World)=>fD x1 1 4294967294 X (by have:=aq x1 (by simp);omega) (by omega));have A2:=a8 (fun(X:World)=>fD x2 0 1000000000000 X (by have:=aq x2 (by simp);omega) (by omega));have A3:=a8 (fun(X:World)=>fD x3 0 2147483647 X (by have:=aq x3 (by simp);omega) (by omega));have A4:=a8 (fun(X:World)=>fD x4 0 40000 X (by have:=aq x4 (by simp);omega) (by omega));have A5:=a8 (fun(X:World)=>fD x5 0 1 X (by have:=aq x5 (by simp);omega) (by omega));have HX:=a8 hx;clear ah hx aD hm hw;go_enter Tryz.func60,Tryz.ntmps60;go_wp2_with fail;refine(A1.out w).mono ?_;rintro e w1 ⟨z,k1,rfl,aL,ai⟩;have aw:=a8 aL;have aE:=a8 ai;have q2:=(ai.cell (p:=⟨g,0+2,none⟩) (by show g<w.heap.size;omega)).trans q2;have q3:=(ai.cell (p:=⟨g,0+3,none⟩) (by show g<w.heap.size;omega)).trans q3;have q4:=(ai.cell (p:=⟨g,0+4,none⟩) (by show g<w.heap.size;omega)).trans q4;have q5:=(ai.cell (p:=⟨g,0+5,none⟩) (by show g<w.heap.size;omega)).trans q5;have aY:g<w1.heap.size:=MW (by omega) ai.size;clear aL ai A1 q1 q0;go_wp2_with fail;refine(A2.out w1).mono ?_;rintro e w2 ⟨K,k2,rfl,aM,ak⟩;have aI:=a8 aM;have aF:=bTr aE ak;have q3:=(ak.cell (p:=⟨g,0+3,none⟩) (by show g<w1.heap.size;omega)).trans q3;have q4:=(ak.cell (p:=⟨g,0+4,none⟩) (by show g<w1.heap.size;omega)).trans q4;have q5:=(ak.cell (p:=⟨g,0+5,none⟩) (by show g<w1.heap.size;omega)).trans q5;have aZ:g<w2.heap.size:=MW (by omega) ak.size;clear aM ak A2 q2 aE;go_wp2_with fail;refine(A3.out w2).mono ?_;rintro e w3 ⟨J,k3,rfl,aN,ap⟩;have ax:=a8 aN;have aG:=bTr aF ap;have q4:=(ap.cell (p:=⟨g,0+4,none⟩) (by show g<w2.heap.size;omega)).trans q4;have q5:=(ap.cell (p:=⟨g,0+5,none⟩) (by show g<w2.heap.size;omega)).trans q5;have ba:g<w3.heap.size:=MW (by omega) ap.size;clear aN ap A3 q3 aF;go_wp2_with fail;refine(A4.out w3).mono ?_;rintro e w4 ⟨M,k4,rfl,aO,ar⟩;have aJ:=a8 aO;have aH:=bTr aG ar;have q5:=(ar.cell (p:=⟨g,0+5,none⟩) (by show g<w3.heap.size;omega)).trans q5;have bb:g<w4.heap.size:=MW (by omega) ar.size;clear aO ar A4 q4 aG;go_wp2_with fail;refine(A5.out w4).mono ?_;rintro e A ⟨N,k5,rfl,aP,aC⟩;have aK:=a8 aP;have al:=bTr aH aC;have bc:g<A.heap.size:=MW (by omega) aC.size;clear aP aC A5 q5 aH;have S5:=HS.out.below al.out (by omega);have ac:=a8 (show iF A B (.slice am s.mails.length E) s.mails from HM.out.below al.out (MH _));obtain⟨-,-,-,-,-,-,-,c7⟩:=S5.c8;obtain⟨-,-,-,c3⟩:=S5.c4;have fz:=fun j=>S5.fz j;have af:=a8 (show dV gs B w A from dV.of_below al.out hB);have HT:=a8 (zp (s:=s) aT aw.out aI.out ax.out aJ.out aK.out);have HY:=a8 (show dU false ([x0,x1,x2,x3,x4,x5].map (·.data.toList)) s=dU false [[65],x1.data.toList,x2.data.toList,x3.data.toList,x4.data.toList,x5.data.toList] s by rw[←HX.out];rfl);have ag:=a8 S5;have aj:B≤A.heap.size:=MN hB al.out.size;clear S5 HS HM al HX;cases k1 with
 |false=>
  have O:=a8 (HY.out.trans (HT.out.trans (if_neg (by simp))));go_wp2;go_ret;exact⟨af.out,.inr ⟨O.out,rfl⟩⟩
 |true=>
 cases k2 with
 |false=>
  have O:=a8 (HY.out.trans (HT.out.trans (if_neg (by simp))));go_wp2;go_ret;exact⟨af.out,.inr ⟨O.out,rfl⟩⟩
 |true=>
 cases k3 with
 |false=>
  have O:=a8 (HY.out.trans (HT.out.trans (if_neg (by simp))));go_wp2;go_ret;exact⟨af.out,.inr ⟨O.out,rfl⟩⟩
 |true=>
 cases k4 with
 |false=>
  have O:=a8 (HY.out.trans (HT.out.trans (if_neg (by simp))));go_wp2;go_ret;exact⟨af.out,.inr ⟨O.out,rfl⟩⟩
 |true=>
 cases k5 with
 |false=>
  have O:=a8 (HY.out.trans (HT.out.trans (if_neg (by simp))));go_wp2;go_ret;exact⟨af.out,.inr ⟨O.out,rfl⟩⟩
 |true=>
 have b1:=ef (ew aw.out);have b3:=ef (ew ax.out);have aW:(z:Int)≤4294967294:=(by omega);have aX:(J:Int)≤2147483647:=(by omega);have ao:=a8 (HY.out.trans (HT.out.trans (if_pos rfl)));clear HT HY aw aI ax aJ aK;by_cases h0:s.mails.length=0
 ·have an:=a8 (E7 (u:=z) h0);have aV:s.mails.length≤1048576:=(by omega);rw[h0] at ag ac c7⊢;clear h0 aS;go_upto_region 28 with fail;go_quiet(fail);have Z:=below_drewN (MJ A.heap.size A) nq;have I:=a8 (show StI (A.drewN nq) gs s (.slice am 0 E) from ag.out.below Z (by omega));have Q:=a8 (show iF (A.drewN nq) B (.slice am 0 E) s.mails from ac.out.below Z (MH _));have Y:=a8 (af.out.trans (dV.of_below Z aj));obtain⟨-,-,-,c3,-,-,-,c7⟩:=I.out.c8;have fz:=fun j=>I.out.fz j;have ad:B≤(A.drewN nq).heap.size:=aj;clear Z ag ac;generalize A.drewN nq=w6 at I Q Y c3 c7 fz ad⊢;by_cases ae:s.next≤z
  ·have av:(s.next:Int)≤(z:Int):=(by omega);have O:=a8 (ao.out.trans (by rw[if_pos (an.out),if_pos ae]));have V:=a8 (show StI (w6.setCell ⟨gs,3,none⟩ (.int .u32 ((z:Int)+1))) gs ⟨s.val,z+1,s.gen,s.mails⟩ (.slice am 0 E) from by
    have h:=I.out.set 3 (.int .u32 ((z:Int)+1));show Blk _ gs (stI _ _) _;simpa[stI] using h)
   have U:=a8 (show iF (w6.setCell ⟨gs,3,none⟩ (.int .u32 ((z:Int)+1))) B (.slice am 0 E) s.mails from b9.keep Q.out (fun k hk=>heap_setCell_other _ ⟨gs,3,none⟩ k _ (by have:=(b9.lt Q.out k hk).1;simp;omega)));have XW:=a8 (Y.out.set (j:=3) (.int .u32 ((z:Int)+1)));have aa:B≤(w6.setCell ⟨gs,3,none⟩ (.int .u32 ((z:Int)+1))).heap.size:=(by simp;exact ad);go_upto_region 32 with fail;generalize w6.setCell ⟨gs,3,none⟩ (.int .u32 ((z:Int)+1))=W at V U XW aa⊢;clear ae I Q Y c3 c7 fz;obtain⟨-,-,-,-,-,-,-,aA⟩:=V.out.c8;have MA:=a8 (show iF (W.alloc (.cells #[.int .u32 (z:Int),.int .i64 0,.int .u32 0,.slice none 0 0,.slice none 0 0,.int .i64 (K:Int),.int .u32 (J:Int),.int .i64 (N:Int),.int .i64 (M:Int),.bool false,.string ⟨#[]⟩] 54)) B (.slice am 0 E) s.mails from U.out.below (nAl W _) (MH _));have CA:=a8 (show∀j u,(ml0 ⟨z,K,J,M,N⟩)[j]? =some u→(W.alloc (.cells #[.int .u32 (z:Int),.int .i64 0,.int .u32 0,.slice none 0 0,.slice none 0 0,.int .i64 (K:Int),.int .u32 (J:Int),.int .i64 (N:Int),.int .i64 (M:Int),.bool false,.string ⟨#[]⟩] 54)).cell? ⟨W.heap.size,j,none⟩=some u from fun j u hj=>((dN W #[.int .u32 (z:Int),.int .i64 0,.int .u32 0,.slice none 0 0,.slice none 0 0,.int .i64 (K:Int),.int .u32 (J:Int),.int .i64 (N:Int),.int .i64 (M:Int),.bool false,.string ⟨#[]⟩] 54).cell j).trans (by rw[←hj];simp[ml0]));go_wp2_with (first
    |(at_builtin;refine gX _ rfl (.tmp 240) (.tmp 249) rfl B (.slice am 0 E) s.mails ⟨z,K,J,M,N⟩ W.heap.size 1 rfl rfl ?_ ?_ ?_ ?_ ?_;(exact MA.out);(exact CA.out);(omega);(rw[World.size_alloc];omega);intro v9 w9 R ab;(obtain⟨a9,m9,c9,rfl⟩:=eA R);have G:=a8 (xa V.out XW.out au aa U.out R ab);have az:=G.out.2.1;have aB:=G.out.2.2;clear R ab)
    |go_in)
   go_ret;exact⟨G.out.1.1,.inl ⟨_,_,O.out,rfl,G.out.1.2.1,G.out.1.2.2⟩⟩
  ·have av:¬(s.next:Int)≤(z:Int):=(by omega);have O:=a8 (ao.out.trans (by rw[if_pos (an.out),if_neg ae]));have V:=I;have U:=Q;have XW:=Y;have aa:B≤w6.heap.size:=ad;go_upto_region 32 with fail;generalize w6=W at V U XW aa⊢;clear ae I Q Y c3 c7 fz;obtain⟨-,-,-,-,-,-,-,aA⟩:=V.out.c8;have MA:=a8 (show iF (W.alloc (.cells #[.int .u32 (z:Int),.int .i64 0,.int .u32 0,.slice none 0 0,.slice none 0 0,.int .i64 (K:Int),.int .u32 (J:Int),.int .i64 (N:Int),.int .i64 (M:Int),.bool false,.string ⟨#[]⟩] 54)) B (.slice am 0 E) s.mails from U.out.below (nAl W _) (MH _));have CA:=a8 (show∀j u,(ml0 ⟨z,K,J,M,N⟩)[j]? =some u→(W.alloc (.cells #[.int .u32 (z:Int),.int .i64 0,.int .u32 0,.slice none 0 0,.slice none 0 0,.int .i64 (K:Int),.int .u32 (J:Int),.int .i64 (N:Int),.int .i64 (M:Int),.bool false,.string ⟨#[]⟩] 54)).cell? ⟨W.heap.size,j,none⟩=some u from fun j u hj=>((dN W #[.int .u32 (z:Int),.int .i64 0,.int .u32 0,.slice none 0 0,.slice none 0 0,.int .i64 (K:Int),.int .u32 (J:Int),.int .i64 (N:Int),.int .i64 (M:Int),.bool false,.string ⟨#[]⟩] 54).cell j).trans (by rw[←hj];simp[ml0]));go_wp2_with (first
    |(at_builtin;refine gX _ rfl (.tmp 240) (.tmp 249) rfl B (.slice am 0 E) s.mails ⟨z,K,J,M,N⟩ W.heap.size 1 rfl rfl ?_ ?_ ?_ ?_ ?_;(exact MA.out);(exact CA.out);(omega);(rw[World.size_alloc];omega);intro v9 w9 R ab;(obtain⟨a9,m9,c9,rfl⟩:=eA R);have G:=a8 (xa V.out XW.out au aa U.out R ab);have az:=G.out.2.1;have aB:=G.out.2.2;clear R ab)
    |go_in)
   go_ret;exact⟨G.out.1.1,.inl ⟨_,_,O.out,rfl,G.out.1.2.1,G.out.1.2.2⟩⟩
 ·obtain⟨L,hL⟩:∃L,s.mails.length=L+1:=⟨s.mails.length-1,by omega⟩
  have hd:decide ((0:Int)<((L+1:Nat):Int))=true:=(by simp);obtain⟨gm,rfl,be,bf⟩:=b9.at0 ac.out (by rw[MI];omega);have hc:=b9.cell ac.out L 0 (by rw[MI];omega) (by simp[ml0]);simp only[MY,ml0,List.getElem_cons_zero,Nat.add_zero] at hc;have ay:=a8 (Cb (u:=z) hL);generalize (s.mails[L]'(by omega)).uid=lu at hc ay;rw[hL] at ag ac c7⊢;by_cases bd:z≤lu
  ·have aR:decide ((z:Int)≤(lu:Int))=true:=(by simp;omega);have O:=a8 (ao.out.trans (by rw[if_neg];rw[ay.out];simp;omega));go_upto_region 28 with fail;go_quiet(fail);have Z:=below_drewN (MJ A.heap.size A) nq;have I:=a8 (show StI (A.drewN nq) gs s (.slice (some ⟨gm,0,none⟩) (L+1) E) from ag.out.below Z (by omega));have Q:=a8 (show iF (A.drewN nq) B (.slice (some ⟨gm,0,none⟩) (L+1) E) s.mails from ac.out.below Z (MH _));have Y:=a8 (af.out.trans (dV.of_below Z aj));obtain⟨-,-,-,c3,-,-,-,c7⟩:=I.out.c8;have fz:=fun j=>I.out.fz j;have ad:B≤(A.drewN nq).heap.size:=aj;clear Z ag ac;generalize A.drewN nq=w6 at I Q Y c3 c7 fz ad⊢;go_wp2;go_ret;exact⟨Y.out,.inr ⟨O.out,rfl⟩⟩
  ·have aR:decide ((z:Int)≤(lu:Int))=false:=(by simp;omega);have an:=a8 (show kz s.mails z=true by rw[ay.out];simp;omega);go_upto_region 28 with fail;go_quiet(fail);have Z:=below_drewN (MJ A.heap.size A) nq;have I:=a8 (show StI (A.drewN nq) gs s (.slice (some ⟨gm,0,none⟩) (L+1) E) from ag.out.below Z (by omega));have Q:=a8 (show iF (A.drewN nq) B (.slice (some ⟨gm,0,none⟩) (L+1) E) s.mails from ac.out.below Z (MH _));have Y:=a8 (af.out.trans (dV.of_below Z aj));obtain⟨-,-,-,c3,-,-,-,c7⟩:=I.out.c8;have fz:=fun j=>I.out.fz j;have ad:B≤(A.drewN nq).heap.size:=aj;clear Z ag ac;generalize A.drewN nq=w6 at I Q Y c3 c7 fz ad⊢;by_cases ae:s.next≤z
   ·have av:(s.next:Int)≤(z:Int):=(by omega);have O:=a8 (ao.out.trans (by rw[if_pos (an.out),if_pos ae]));have V:=a8 (show StI (w6.setCell ⟨gs,3,none⟩ (.int .u32 ((z:Int)+1))) gs ⟨s.val,z+1,s.gen,s.mails⟩ (.slice (some ⟨gm,0,none⟩) (L+1) E) from by
     have h:=I.out.set 3 (.int .u32 ((z:Int)+1));show Blk _ gs (stI _ _) _;simpa[stI] using h)
    have U:=a8 (show iF (w6.setCell ⟨gs,3,none⟩ (.int .u32 ((z:Int)+1))) B (.slice (some ⟨gm,0,none⟩) (L+1) E) s.mails from b9.keep Q.out (fun k hk=>heap_setCell_other _ ⟨gs,3,none⟩ k _ (by have:=(b9.lt Q.out k hk).1;simp;omega)));have XW:=a8 (Y.out.set (j:=3) (.int .u32 ((z:Int)+1)));have aa:B≤(w6.setCell ⟨gs,3,none⟩ (.int .u32 ((z:Int)+1))).heap.size:=(by simp;exact ad);go_upto_region 32 with fail;generalize w6.setCell ⟨gs,3,none⟩ (.int .u32 ((z:Int)+1))=W at V U XW aa⊢;clear ae I Q Y c3 c7 fz;obtain⟨-,-,-,-,-,-,-,aA⟩:=V.out.c8;have MA:=a8 (show iF (W.alloc (.cells #[.int .u32 (z:Int),.int .i64 0,.int .u32 0,.slice none 0 0,.slice none 0 0,.int .i64 (K:Int),.int .u32 (J:Int),.int .i64 (N:Int),.int .i64 (M:Int),.bool false,.string ⟨#[]⟩] 54)) B (.slice (some ⟨gm,0,none⟩) (L+1) E) s.mails from U.out.below (nAl W _) (MH _));have CA:=a8 (show∀j u,(ml0 ⟨z,K,J,M,N⟩)[j]? =some u→(W.alloc (.cells #[.int .u32 (z:Int),.int .i64 0,.int .u32 0,.slice none 0 0,.slice none 0 0,.int .i64 (K:Int),.int .u32 (J:Int),.int .i64 (N:Int),.int .i64 (M:Int),.bool false,.string ⟨#[]⟩] 54)).cell? ⟨W.heap.size,j,none⟩=some u from fun j u hj=>((dN W #[.int .u32 (z:Int),.int .i64 0,.int .u32 0,.slice none 0 0,.slice none 0 0,.int .i64 (K:Int),.int .u32 (J:Int),.int .i64 (N:Int),.int .i64 (M:Int),.bool false,.string ⟨#[]⟩] 54).cell j).trans (by rw[←hj];simp[ml0]));go_wp2_with (first
     |(at_builtin;refine gX _ rfl (.tmp 240) (.tmp 249) rfl B (.slice (some ⟨gm,0,none⟩) (L+1) E) s.mails ⟨z,K,J,M,N⟩ W.heap.size 1 rfl rfl ?_ ?_ ?_ ?_ ?_;(exact MA.out);(exact CA.out);(omega);(rw[World.size_alloc];omega);intro v9 w9 R ab;(obtain⟨a9,m9,c9,rfl⟩:=eA R);have G:=a8 (xa V.out XW.out au aa U.out R ab);have az:=G.out.2.1;have aB:=G.out.2.2;clear R ab)
     |go_in)
    go_ret;exact⟨G.out.1.1,.inl ⟨_,_,O.out,rfl,G.out.1.2.1,G.out.1.2.2⟩⟩
   ·have av:¬(s.next:Int)≤(z:Int):=(by omega);have O:=a8 (ao.out.trans (by rw[if_pos (an.out),if_neg ae]));have V:=I;have U:=Q;have XW:=Y;have aa:B≤w6.heap.size:=ad;go_upto_region 32 with fail;generalize w6=W at V U XW aa⊢;clear ae I Q Y c3 c7 fz;obtain⟨-,-,-,-,-,-,-,aA⟩:=V.out.c8;have MA:=a8 (show iF (W.alloc (.cells #[.int .u32 (z:Int),.int .i64 0,.int .u32 0,.slice none 0 0,.slice none 0 0,.int .i64 (K:Int),.int .u32 (J:Int),.int .i64 (N:Int),.int .i64 (M:Int),.bool false,.string ⟨#[]⟩] 54)) B (.slice (some ⟨gm,0,none⟩) (L+1) E) s.mails from U.out.below (nAl W _) (MH _));have CA:=a8 (show∀j u,(ml0 ⟨z,K,J,M,N⟩)[j]? =some u→(W.alloc (.cells #[.int .u32 (z:Int),.int .i64 0,.int .u32 0,.slice none 0 0,.slice none 0 0,.int .i64 (K:Int),.int .u32 (J:Int),.int .i64 (N:Int),.int .i64 (M:Int),.bool false,.string ⟨#[]⟩] 54)).cell? ⟨W.heap.size,j,none⟩=some u from fun j u hj=>((dN W #[.int .u32 (z:Int),.int .i64 0,.int .u32 0,.slice none 0 0,.slice none 0 0,.int .i64 (K:Int),.int .u32 (J:Int),.int .i64 (N:Int),.int .i64 (M:Int),.bool false,.string ⟨#[]⟩] 54).cell j).trans (by rw[←hj];simp[ml0]));go_wp2_with (first
     |(at_builtin;refine gX _ rfl (.tmp 240) (.tmp 249) rfl B (.slice (some ⟨gm,0,none⟩) (L+1) E) s.mails ⟨z,K,J,M,N⟩ W.heap.size 1 rfl rfl ?_ ?_ ?_ ?_ ?_;(exact MA.out);(exact CA.out);(omega);(rw[World.size_alloc];omega);intro v9 w9 R ab;(obtain⟨a9,m9,c9,rfl⟩:=eA R);have G:=a8 (xa V.out XW.out au aa U.out R ab);have az:=G.out.2.1;have aB:=G.out.2.2;clear R ab)
     |go_in)
    go_ret;exact⟨G.out.1.1,.inl ⟨_,_,O.out,rfl,G.out.1.2.1,G.out.1.2.2⟩⟩
theorem oU{ws:List (List UInt8)}{s:IX}(z:¬(ws.length=3∧ws.head? =some [70]))(A:¬(ws.length=6∧ws.head? =some [65]∧s.mails.length<100)):dU false ws s=none:=by
 unfold dU;rw[if_neg (by simp)];unfold me;rw[if_neg z,if_neg A]
theorem zA(gs B:Nat)(Q:Nat)(first:Bool)(v:Value)(ws:List ByteArray)(s:IX)(O:Value)(w:World)(I:StI w gs s O)(J:iF w B O s.mails)(V:gs<B)(R:B≤w.heap.size)(E:gZ w Q v ws)(Y:∀y∈ws,y.size≤40000)(ac:s.mails.length≤100):
  Calls Tryz.prog 60 #[.pointer (some ⟨gs,0,none⟩),.bool first,v] w (vY gs B first (ws.map (·.data.toList)) s w):=by
 cases first with
 |true=>exact xk gs B Q v ws s O w I J V R E Y
 |false=>
 have M:=a8 (show dV gs B w w from dV.of_below (MJ _ _) R);by_cases h3:ws.length=3
 ·obtain⟨z,L,x2,rfl⟩:=vA h3;by_cases A:z.data.toList=[70]
  ·exact xi gs B Q v z L x2 s O w I J V R E Y A ac
  ·have K:=a8 (show dU false ([z,L,x2].map (·.data.toList)) s=none from oU (by simp[A]) (by simp));have hq:(z.toList==[70])=false:=(by rw[ByteArray.toList_eq];simpa using A);have aa:(z.toList !=[70])=true:=(by rw[ByteArray.toList_eq];simpa using A);rcases E.at with⟨_,N⟩|⟨g,cap,rfl,Z,_,U,G⟩
   ·cases N
   have q0:=G 0 z rfl;clear G I J E A;go_enter Tryz.func60,Tryz.ntmps60;go_wp2;go_ret;exact⟨M.out,.inr ⟨K.out,rfl⟩⟩
 by_cases h6:ws.length=6
 ·obtain⟨z,L,x2,x3,x4,x5,rfl⟩:=Jy h6;by_cases A:z.data.toList=[65]
  ·by_cases ab:s.mails.length<100
   ·exact xl gs B Q v z L x2 x3 x4 x5 s O w I J V R E Y A ab
   ·have K:=a8 (show dU false ([z,L,x2,x3,x4,x5].map (·.data.toList)) s=none from oU (by simp) (by simp;omega));have hq:(z.toList==[65])=true:=(by rw[ByteArray.toList_eq,A];rfl);have aa:(z.toList !=[65])=false:=(by rw[ByteArray.toList_eq,A];rfl);rcases E.at with⟨_,N⟩|⟨g,cap,rfl,Z,_,U,G⟩
    ·cases N
    have q0:=G 0 z rfl;obtain⟨am,cm,rfl⟩:=J.slice;rw[MI] at*;obtain⟨-,-,-,-,-,-,-,c7⟩:=I.c8;have ah:(100:Int)≤(s.mails.length:Int):=(by omega);clear G I J E A;go_enter Tryz.func60,Tryz.ntmps60;go_wp2;go_ret;exact⟨M.out,.inr ⟨K.out,rfl⟩⟩
  ·have K:=a8 (show dU false ([z,L,x2,x3,x4,x5].map (·.data.toList)) s=none from oU (by simp) (by simp[A]));have hq:(z.toList==[65])=false:=(by rw[ByteArray.toList_eq];simpa using A);have aa:(z.toList !=[65])=true:=(by rw[ByteArray.toList_eq];simpa using A);rcases E.at with⟨_,N⟩|⟨g,cap,rfl,Z,_,U,G⟩
   ·cases N
   have q0:=G 0 z rfl;clear G I J E A;go_enter Tryz.func60,Tryz.ntmps60;go_wp2;go_ret;exact⟨M.out,.inr ⟨K.out,rfl⟩⟩
 have K:=a8 (show dU false (ws.map (·.data.toList)) s=none from oU (by simp[h3]) (by simp[h6]));rcases E.at with⟨rfl,rfl⟩|⟨g,cap,rfl,Z,_,U,G⟩
 ·clear I J E;go_enter Tryz.func60,Tryz.ntmps60;go_wp2;go_ret;exact⟨M.out,.inr ⟨K.out,rfl⟩⟩
 ·have ad:¬((ws.length:Nat):Int)=3:=(by omega);have ae:(((ws.length:Nat):Int)==3)=false:=(by simp;omega);have af:¬((ws.length:Nat):Int)=6:=(by omega);have ag:(((ws.length:Nat):Int) !=6)=true:=(by simp;omega);clear I J E G;go_enter Tryz.func60,Tryz.ntmps60;go_wp2;go_ret;exact⟨M.out,.inr ⟨K.out,rfl⟩⟩
def stU(s:UX)(dv:Value):Array Value:= #[.int .i64 0,.int .i64 3,.int .u32 (s.val:Int),.int .u32 (s.next:Int),.int .u32 0,.int .i64 0,.int .i64 0,.slice none 0 0,dv]
abbrev StU(w:World)(g:Nat)(s:UX)(dv:Value):Prop:=Blk w g (stU s dv) 50
def wn(gs B:Nat)(first:Bool)(wsL:List (List UInt8))(s:UX)(w:World)(e:Ending)(w':World):Prop:=
 dV gs B w w'∧((∃s' dv',dY first wsL s=some s'∧e= .returned (.bool true)∧StU w' gs s' dv'∧jY w' B dv' s'.dead)∨(dY first wsL s=none∧e= .returned (.bool false)))
theorem AV{I x2:List UInt8}{s:UX}{v n:Nat}{z A:Bool}(E:mf I 1 fY v z)(G:mf x2 1 fY n A):
  jT [[86],I,x2] s=if(z&&A)=true then some ⟨v,n,s.dead⟩ else none:=by
 unfold jT;cases z with
 |false=>simp[fQ E]
 |true=>
  cases A with
  |false=>simp[fQ G]
  |true=>simp[ew E,ew G]
theorem sx(gs B:Nat)(ai:Nat)(v:Value)(ws:List ByteArray)(s:UX)(L:Value)(w:World)(J:StU w gs s L)(M:jY w B L s.dead)(ao:gs<B)(hB:B≤w.heap.size)(G:gZ w ai v ws)(ah:∀y∈ws,y.size≤40000):
  Calls Tryz.prog 67 #[.pointer (some ⟨gs,0,none⟩),.bool true,v] w (wn gs B true (ws.map (·.data.toList)) s w):=by
 have N:=a8 (show dV gs B w w from dV.of_below (MJ _ _) hB);have HS:=a8 J;have HM:=a8 M;by_cases hl:ws.length=3
 ·obtain⟨z,I,x2,rfl⟩:=vA hl;rcases G.at with⟨_,hb⟩|⟨g,cap,rfl,hg,_,aj,A⟩
  ·cases hb
  by_cases E:z.data.toList=[86]
  ·have hq:(z.toList==[86])=true:=(by rw[ByteArray.toList_eq,E];rfl);have al:(z.toList !=[86])=false:=(by rw[ByteArray.toList_eq,E];rfl);have q0:=A 0 z rfl;have q1:=A 1 I rfl;have q2:=A 2 x2 rfl;have A1:=a8 (fun(X:World)=>fD I 1 4294967295 X (by have:=ah I (by simp);omega) (by omega));have A2:=a8 (fun(X:World)=>fD x2 1 4294967295 X (by have:=ah x2 (by simp);omega) (by omega));have HX:=a8 E;clear A E J M G;go_enter Tryz.func67,Tryz.ntmps67;go_wp2_with fail;refine(A1.out w).mono ?_;rintro e w1 ⟨n1,k1,rfl,af,V⟩;have ac:=a8 af;have aa:=a8 V;have q2:=(V.cell (p:=⟨g,0+2,none⟩) (by show g<w.heap.size;omega)).trans q2;clear af V A1 q0 q1;go_wp2_with fail;refine(A2.out w1).mono ?_;rintro e R ⟨n2,k2,rfl,ag,ae⟩;have ad:=a8 ag;have O:=bTr aa ae;clear ag ae A2 q2 aa;have S3:=HS.out.below O.out (by omega);obtain⟨-,-,c2,c3⟩:=S3.c4;have fz:=fun j=>S3.fz j;have ab:=a8 (show jY R B L s.dead from b9.below HM.out O.out (MH _));have ak:=a8 S3;have U:=a8 (show dV gs B w R from dV.of_below O.out hB);have Y:=a8 (AV (s:=s) ac.out ad.out);have Z:=a8 (show dY true ([z,I,x2].map (·.data.toList)) s=jT [[86],I.data.toList,x2.data.toList] s by unfold dY;rw[if_pos rfl,←HX.out];rfl);clear S3 HS HM N O HX;cases k1 with
   |false=>
    have K:=a8 (Z.out.trans (Y.out.trans (if_neg (by simp))));go_wp2;go_ret;exact⟨(U.out.set _).set _,.inr ⟨K.out,rfl⟩⟩
   |true=>
    cases k2 with
    |false=>
     have K:=a8 (Z.out.trans (Y.out.trans (if_neg (by simp))));go_wp2;go_ret;exact⟨(U.out.set _).set _,.inr ⟨K.out,rfl⟩⟩
    |true=>
     have K:=a8 (Z.out.trans (Y.out.trans (if_pos rfl)));have b1:=(ef (ew ac.out)).2;have b2:=(ef (ew ad.out)).2;have am:(n1:Int)≤4294967295:=(by omega);have an:(n2:Int)≤4294967295:=(by omega);go_wp2;go_ret;refine⟨(U.out.set _).set _,.inl ⟨_,L,K.out,rfl,?_,?_⟩⟩
     ·have h:=(ak.out.set 2 (.int .u32 (n1:Int))).set 3 (.int .u32 (n2:Int));show Blk _ gs (stU ⟨n1,n2,s.dead⟩ L) _;simpa[stU] using h
     ·refine b9.keep ab.out (fun k hk=> ?_);have:=(b9.lt ab.out k hk).1;rw[heap_setCell_other _ ⟨gs,3,none⟩ k _ (by simp;omega),heap_setCell_other _ ⟨gs,2,none⟩ k _ (by simp;omega)]
  ·have hq:(z.toList==[86])=false:=(by rw[ByteArray.toList_eq];simpa using E);have al:(z.toList !=[86])=true:=(by rw[ByteArray.toList_eq];simpa using E);have Q:=a8 (show dY true ([z,I,x2].map (·.data.toList)) s=none by unfold dY jT;simp[E]);have q0:=A 0 z rfl;clear A E J M G;go_enter Tryz.func67,Tryz.ntmps67;go_wp2;go_ret;exact⟨N.out,.inr ⟨Q.out,rfl⟩⟩
 ·have Q:=a8 (show dY true (ws.map (·.data.toList)) s=none by
   unfold dY jT;rw[if_pos rfl];split
   ·next a b c e=>
    have:=congrArg List.length e;simp at this;exact absurd this hl
   ·rfl)
  have aq:(((ws.length:Nat):Int) !=3)=true:=(by simp;omega);have ap:¬((ws.length:Nat):Int)=3:=(by omega);rcases G.at with⟨rfl,rfl⟩|⟨g,cap,rfl,hg,_,aj,A⟩
  ·clear J M G;go_enter Tryz.func67,Tryz.ntmps67;go_wp2;go_ret;exact⟨N.out,.inr ⟨Q.out,rfl⟩⟩
  ·clear J M G A;go_enter Tryz.func67,Tryz.ntmps67;go_wp2;go_ret;exact⟨N.out,.inr ⟨Q.out,rfl⟩⟩
theorem Tryz.infoU32:(Tryz.prog.info? 28).map (fun i=>(i.zero,i.size,i.bytes))=some (some (.int .u32 0),1,4):=by kernel_rfl
theorem px{K:Array Oper}{J:List Oper}{A:Act}(w:World)(U:o.guard=none)(s x:Operand)
  (ho:o.op= .call {callee:= .builtin .append,args:= #[s,x],argTypes:= #[48,48]})
  (z:Nat) (v:Value) (ds:List Nat) (d:Nat) (G c:Nat) (hs:A.eval s=v) (hx:A.eval x= .slice (some ⟨G,0,none⟩) 1 c) (R:jY w z v ds)
  (hc:w.cell? ⟨G,0,none⟩=some (.int .u32 (d:Int))) (aa:ds.length≤1048576) (M:z≤w.heap.size)
  (h:∀E w',jY w' z E (ds++[d])→w.grownBy w' v.ownBlock→wpList Tryz.prog K Q J (A.put o.dst E) w'):wpList Tryz.prog K Q (o::J) A w:=by
 obtain⟨i0,hi,V,Y,Z⟩:=info_parts Tryz.infoU32;have N:w.ownsRow z 28 1 v ds.length (ds.map fun d:Nat=>[Value.int .u32 (d:Int)]).flatten:=(by have:=R.2;rw[MI] at this;exact this);refine wpList_append_own w U s x 48 ho z 28 i0 (.int .u32 0) 1 4 Tryz.underlying48 hi V Y Z rfl (by decide) v ds.length (ds.map fun d:Nat=>[Value.int .u32 (d:Int)]).flatten hs N ⟨G,0,none⟩ 1 c [.int .u32 (d:Int)] hx (by simp) ?_ ?_ (by unfold maxLen;omega) (by omega) M ?_
 ·intro j u I;rw[ej]
  match j with
  |0=>simp only[Nj,MK] at I;rw[←I];exact hc
  |j+1=>simp at I
 ·intro u L;simp only[M1,Nw,or_false] at L;rw[L];rfl
 ·intro E w' O hg _;refine h E w' ⟨?_,?_⟩ hg
  ·intro y hy;obtain⟨d',_,rfl⟩:=Na.1 hy;rfl
  ·rw[MI,MT,MS,NG];simpa using O
theorem IZ{ws:List (List UInt8)}{s:UX}(h:ws.length<3∨ws.head?≠some [88]):dY false ws s=none:=by
 unfold dY;rw[if_neg (by simp)];unfold nX;split
 ·next a b x xs=>
  rcases h with h|h
  ·simp at h;omega
  ·rw[if_neg];rintro rfl;exact h rfl
 ·rfl
theorem yD{last:Nat}{xs:List (List UInt8)}{ds:List Nat}(h:j<xs.length)(e:dS xs[j] (last+1) (n-1)=some u):fh n (xs.drop j) last ds=fh n (xs.drop (j+1)) u (ds++[u]):=by
 rw[fw xs j h,fh,e]
theorem D7{last:Nat}{xs:List (List UInt8)}{ds:List Nat}(h:j<xs.length)(e:dS xs[j] (last+1) (n-1)=none):fh n (xs.drop j) last ds=none:=by
 rw[fw xs j h,fh,e]
theorem LA{s1:UX}{z:Value}{d:Nat}{o:Obj}(Z:StU W gs s1 E)(J:dV gs B w W)(Q:gs<B)(aa:B≤W.heap.size)(hm:jY W B E s1.dead)(N:jY w' B z (s1.dead++[d]))(I:(W.alloc o).grownBy w' E.ownBlock)(R:g<W.heap.size)(V:E.ownBlock≠some g)(O:g≠gs):
  (dV gs B w (w'.setCell ⟨gs,8,none⟩ z)∧StU (w'.setCell ⟨gs,8,none⟩ z) gs {s1 with dead:=s1.dead++[d]} z∧jY (w'.setCell ⟨gs,8,none⟩ z) B z (s1.dead++[d]))∧w'.cell? ⟨gs,8,none⟩=some E∧w'.frozen? ⟨gs,8,none⟩=false∧(w'.setCell ⟨gs,8,none⟩ z).heap[g]? =W.heap[g]?∧W.heap.size≤(w'.setCell ⟨gs,8,none⟩ z).heap.size:=by
 have U:∀k,E.ownBlock=some k→B≤k:=fun k G=>(b9.lt hm k G).1;have A:=nAl W o;have L:∀k,k<B→w'.heap[k]? =W.heap[k]? :=fun k G=>(I.block k (by have:=A.size;omega) (fun e=>by have:=U k e.symm;omega)).trans (A.block k (by omega));have K:StU w' gs s1 E:=(L gs Q).trans Z;have Y:W.heap.size≤(w'.setCell ⟨gs,8,none⟩ z).heap.size:=by
  have h1:=I.size;have h2:=A.size;simp only[World.size_setCell];omega
 refine⟨⟨⟨?_,?_,?_,?_,?_⟩,?_,?_⟩,K.cell 8,K.fz 8,?_,Y⟩
 ·exact I.os.trans (A.os.trans J.os)
 ·exact I.tape.trans (A.tape.trans J.tape)
 ·exact I.output.trans (A.output.trans J.output)
 ·have h3:=J.size;omega
 ·intro k G M;rw[heap_setCell_other w' ⟨gs,8,none⟩ k z (by simpa using M)];exact(L k G).trans (J.block k G M)
 ·have h:=K.set 8 z;show Blk _ gs (stU _ z) _;simpa[stU] using h
 ·refine b9.keep N (fun k G=>heap_setCell_other w' ⟨gs,8,none⟩ k z ?_);have:=(b9.lt N k G).1;simp;omega
 ·rw[heap_setCell_other w' ⟨gs,8,none⟩ g z (by simpa using O)];exact(I.block g (by have:=A.size;omega) (fun e=>V e.symm)).trans (A.block g R)
theorem Hg(g:Nat)(y:ByteArray)(h:y.data.toList=Lib.decDigits g):(⟨#[109,98,111,120,46]⟩:ByteArray)++y=eH g:=by
 apply ByteArray.ext;apply Array.toList_inj.1;unfold eH;rw[ByteArray.data_append,Array.toList_append,h]
theorem Ea(g:Nat)(h:g≤99999):(Lib.decDigits g).length≤20:=by
 rw[Lib.decDigits_length];by_cases z:g<10
 ·rw[Lib.nDigits_small z];omega
 rw[Lib.nDigits_big z];by_cases A:g/10<10
 ·rw[Lib.nDigits_small A];omega
 rw[Lib.nDigits_big A];by_cases E:g/10/10<10
 ·rw[Lib.nDigits_small E];omega
 rw[Lib.nDigits_big E];by_cases G:g/10/10/10<10
 ·rw[Lib.nDigits_small G];omega
 rw[Lib.nDigits_big G,Lib.nDigits_small (by omega)];omega
theorem BE(g:Nat)(w:World)(L:g≤99999):Calls Tryz.prog 63 #[.int .i64 (g:Int)] w fun e w'=>e= .returned (.string (eH g))∧Below w.heap.size w w':=by
 go_enter Tryz.func63,Tryz.ntmps63;go_wp2_with fail;refine(ni g w (by omega)).mono ?_;rintro e M ⟨rfl,A⟩;have G:=a8 A;have z:=a8 (Hg g (iG g) rfl);have E:(iG g).size≤20:=by
  have I:(iG g).data.toList.length=(iG g).size:=rfl;have J:(iG g).data.toList=Lib.decDigits g:=rfl;have K:=Ea g L;rw[←I,J];exact K
 generalize iG g=y at z E⊢;clear A;go_wp2;go_ret;exact⟨by rw[←z.out];rfl,G.out⟩
end Go.Proofs.YtpdbolihakojcaaGreatDoor
