import Derived.Test.YtpdbolihakojcaaGreatDoorPkq
import Derived.Test.YtpdbolihakojcaaGreatDoorPkr
import Derived.BigRegion
namespace Go.Proofs.YtpdbolihakojcaaGreatDoor
set_option maxRecDepth 20000
set_option linter.unusedVariables false
set_option linter.unusedSimpArgs false
set_option maxHeartbeats 4000000
open Go.RowKit
variable {W Y w w' w0 wr : World} {b : List UInt8} {A B at_ base' c cap e f g gs i j k lo m n u z : Nat} {R d is l : List Nat} {E G I J K L M N O v0 v1 v2 v3 v4 v5 v6 x y : Value} {o : Oper} {Q : Exit → Act → World → Prop} {bvs xs : List Value} {t : TypeId} {cs tmps : Array Value} {p : Addr} {a : Option Addr} {first ok : Bool} {s : ByteArray} {rs : List (List Nat)}
theorem xZ(f:FuncId)(L:∀(v u z:Value) (w:World),(callFunc f #[v,u,z]).run Tryz.prog w= .ok (.enter f #[v,u,z]) w){I:Array Oper}{A:Act}{K:Act→World→Prop}{E:Prop}(x y t:Operand)(ts:Array TypeId)(G:o.guard=none)
  (J:o.op= .call {callee:= .value (.func f),args:= #[x,y,t],argTypes:=ts}) (v u z:Value) (R:A.eval x=v) (U:A.eval y=u) (N:A.eval t=z) (h:Calls Tryz.prog f #[v,u,z] w fun e w'=>∃r,e= .returned r∧K (A.put o.dst r) w'):
  if Region.wanted o (yielded I A.tmps)=true then Oper.wp Tryz.prog o A w K Q else E:=by
 have O:Region.wanted o (yielded I A.tmps)=true:=(by simp[Region.wanted,G]);rw[if_pos O];obtain⟨Z,op,ty,aa,V,Y⟩:=o;simp only at J G;subst J;unfold Oper.wp;rw[execOp_call_go];simp only[List.map_toArray,M0,Ns,R,U,N,List.append_toArray,Nq,Nn,L,Oper.upon_enter];refine h.mono ?_;rintro e w' ⟨r,rfl,M⟩;exact M
theorem Ao(v u z:Value)(w:World):(callFunc 92 #[v,u,z]).run Tryz.prog w= .ok (.enter 92 #[v,u,z]) w:=by kernel_rfl
theorem Jx(y:ByteArray)(lo z:Int)(l h:Nat)(G:lo=(l:Int))(E:z=(h:Int))(w:World)(I:y.size≤1048576)(A:h<10000000000000):Calls Tryz.prog 92 #[.string y,.int .i64 lo,.int .i64 z] w (FD y l h w):=by
 subst G E;exact fD y l h w I A
theorem E1{G:Nat}{A:Value}{ds:List Nat}{xs:List ByteArray}(h:jY w B A ds)(k:gZ w G (.slice (some ⟨g,0,none⟩) n c) xs):A.ownBlock≠some g:=by
 intro e;rcases h.2.2 with⟨rfl,_⟩|⟨N,L,J,rfl,_,I,_⟩
 ·cases e
 ·simp only[Value.ownBlock,MK] at e;subst e;rcases k.2 with⟨z,_⟩|⟨O,M,K,z,_,E,_⟩
  ·cases z
  ·simp only[MR,MK,Np] at z;obtain⟨⟨rfl,_⟩,_⟩:=z;rw[I] at E;simp at E
theorem ny{xs:List ByteArray}(h:gZ w z (.slice (some ⟨g,0,none⟩) n c) xs)(I:w'.heap[g]? =w.heap[g]?):gZ w' z (.slice (some ⟨g,0,none⟩) n c) xs:=by
 refine⟨h.1,?_⟩;rcases h.2 with J|⟨N,M,E,A,L,K,G⟩
 ·exact .inl J
 ·simp only[MR,MK,Np] at A;obtain⟨⟨rfl,_⟩,rfl,rfl⟩:=A;exact .inr ⟨g,c,E,rfl,L,I.trans K,G⟩
theorem CO{z x2:List UInt8}{xs:List (List UInt8)}{s:UX}(h:dS z s.next 4294967295=some n):dY false ([88]::z::x2::xs) s=(fh n (x2::xs) 0 s.dead).map (fun ds=>⟨s.val,n,ds⟩):=by
 unfold dY;rw[if_neg (by simp)];unfold nX;have A:dS z s.next fY=some n:=h;simp only[A,if_true];cases fh n (x2::xs) 0 s.dead<;>rfl
theorem CK{z x2:List UInt8}{xs:List (List UInt8)}{s:UX}(h:dS z s.next 4294967295=none):dY false ([88]::z::x2::xs) s=none:=by
 unfold dY;rw[if_neg (by simp)];unfold nX;have A:dS z s.next fY=none:=h;simp only[A,if_true]
theorem um(gs B:Nat)(J:Nat)(v:Value)(E z x2:ByteArray)(xs:List ByteArray)(s:UX)(L:Value)(w:World)(aq:StU w gs s L)(hm:jY w B L s.dead)(bl:gs<B)(hB:B≤w.heap.size)(bA:B≤J)(bC:∀k,L.ownBlock=some k→k<J)(hw:gZ w J v (E::z::x2::xs))(ar:∀y∈(E::z::x2::xs),y.size≤40000)(hx:E.data.toList=[88])(bK:1≤s.next)(bL:s.next≤4294967295)(aJ:s.dead.length+xs.length≤1000000):
  Calls Tryz.prog 67 #[.pointer (some ⟨gs,0,none⟩),.bool false,v] w (wn gs B false ((E::z::x2::xs).map (·.data.toList)) s w):=by
 rcases hw.at with⟨_,hb⟩|⟨g,cap,rfl,hg,bB,au,aa⟩
 ·cases hb
 have hq:(E.toList==[88])=true:=(by rw[ByteArray.toList_eq,hx];rfl);have bJ:(E.toList !=[88])=false:=(by rw[ByteArray.toList_eq,hx];rfl);have q0:=aa 0 E rfl;have q1:=aa 1 z rfl;have R:=a8 (fun(X:World)=>fD z s.next 4294967295 X (by have:=ar z (by simp);omega) (by omega));have HS:=a8 aq;have HM:=a8 hm;obtain⟨-,-,-,c3⟩:=aq.c4;have aT:=a8 (fun j x (h:(x2::xs)[j]? =some x)=>aa (j+2) x h);have bN:(s.next:Int)≤4294967295:=(by omega);have U:(E::z::x2::xs).length=xs.length+3:=rfl;rw[U] at au hw⊢;have HW:=a8 hw;have HX:=a8 hx;obtain⟨A,ao⟩:∃A,xs.length+3=A:=⟨_,rfl⟩
 rw[ao] at HW au⊢;have br:(A:Int)≤(cap:Int):=(by omega);have bE:(0:Int)<(A:Int):=(by omega);have bF:(1:Int)<(A:Int):=(by omega);have bG:(2:Int)≤(A:Int):=(by omega);have bH:¬(A:Int)<3:=(by omega);have ay:=a8 ao;clear ao;clear aa aq hm hw hx U;go_enter Tryz.func67,Tryz.ntmps67;go_upto_region 11 with fail;have bS:w.cell? ⟨g,1,none⟩=some (.string z):=q1;clear q0 q1;have bo:IntKind.i64.wrap (s.next:Int)=(s.next:Int):=(by first|go_num|(simp[IntKind.wrap,IntKind.signed,IntKind.bits];omega));go_cut [11,12] (fun a b wx=>∃(n:Nat) (ok:Bool),a= .int .i64 (n:Int)∧b= .bool ok∧mf z.data.toList s.next 4294967295 n ok∧Below w.heap.size w wx)
 case first=>
  go_region_law (first
   |(refine xZ 92 Ao (.tmp 68) (.tmp 73) (.const (.int .i64 4294967295)) #[9,2,2] (by rfl) (by rfl) (.string z) (.int .i64 (s.next:Int)) (.int .i64 4294967295) (by simp[go_sem]) (by first|(simp[go_sem,bo];done)|simp[go_sem]) (by simp[go_sem]) ?_;refine(R.out _).mono ?_;rintro e w1 ⟨n1,k1,rfl,aM,an⟩;have be:=a8 aM;have aS:=a8 an;clear aM an;refine⟨_,rfl,?_⟩)
   |fail)
  all_goals
   go_wp2_with fail;go_meet
   case rel=>exact⟨n1,k1,rfl,rfl,be.out,(MJ _ _).drew.trans aS.out⟩
 case rest=>
  obtain⟨n,ok,rfl,rfl,M,Q⟩:=hcut;have af:=a8 (show dV gs B w wc from dV.of_below Q hB);have Z:=HS.out.below Q (by omega);have ag:=a8 (show jY wc B L s.dead from b9.below HM.out Q (MH _));have bm:g<w.heap.size:=hg;have av:=a8 (Q.block g bm);have bP:=Q.size;have N:=a8 (show dY false ((E::z::x2::xs).map (·.data.toList)) s=dY false ([88]::z.data.toList::x2.data.toList::xs.map (·.data.toList)) s by rw[←HX.out];rfl);clear Q R HS HM HX;cases ok with
  |false=>
   have HR:=a8 (N.out.trans (CK (fQ M)));go_wp2;go_ret;exact⟨af.out,.inr ⟨HR.out,rfl⟩⟩
  |true=>
   have K:=ew M;have an:=ef K;have HR:=a8 (N.out.trans (CO (xs:=xs.map (·.data.toList)) (x2:=x2.data.toList) K));have bI:(n:Int)≤4294967295:=(by omega);have bi:=a8 Z;obtain⟨-,-,-,c3⟩:=Z.c4;have fz:=fun j=>Z.fz j;have aC:=a8 (ny HW.out av.out);have aA:=a8 (show StU (wc.setCell ⟨gs,3,none⟩ (.int .u32 (n:Int))) gs ⟨s.val,n,s.dead⟩ L from by
    have h:=Z.set 3 (.int .u32 (n:Int));show Blk _ gs (stU _ _) _;simpa[stU] using h)
   have ax:=a8 (show jY (wc.setCell ⟨gs,3,none⟩ (.int .u32 (n:Int))) B L s.dead from b9.keep ag.out (fun j hj=>heap_setCell_other _ ⟨gs,3,none⟩ j _ (by have:=(b9.lt ag.out j hj).1;simp;omega)));have aD:=a8 (af.out.set (j:=3) (.int .u32 (n:Int)));have aL:g≠gs:=(by omega);have aB:=a8 (show gZ (wc.setCell ⟨gs,3,none⟩ (.int .u32 (n:Int))) J (.slice (some ⟨g,0,none⟩) A cap) (E::z::x2::xs) from ny aC.out (heap_setCell_other _ ⟨gs,3,none⟩ g _ (by simpa using aL)));have aF:B≤(wc.setCell ⟨gs,3,none⟩ (.int .u32 (n:Int))).heap.size:=(by simp;omega);have aQ:s.dead.length≤s.dead.length+0:=MH _;clear Z M N K bi ag af av aC HW aT;go_upto_region 15 with fail;clear c3 fz;generalize wc.setCell ⟨gs,3,none⟩ (.int .u32 (n:Int))=w1 at aA ax aD aB aF⊢;obtain⟨I,aN⟩:∃I,I+2=A:=⟨xs.length+1,by have:=ay.out;omega⟩
   have bz:=a8 aN;have U:I=(x2::xs).length:=(by have:=ay.out;simp;omega);have ab:=a8 U;have bO:(A:Int)-2=(I:Int):=(by omega);have bx:A-2=I:=(by omega);have bM:((A:Int)-2).toNat=I:=(by omega);clear aN U;have aV:=a8 aJ;have bw:I≤1000001:=(by have:=ab.out;simp at this;omega);have aU:=a8 (show∀(W:World),gZ W J (.slice (some ⟨g,0,none⟩) A cap) (E::z::x2::xs)→∀j (hj:j<(x2::xs).length),W.cell? ⟨g,2+j,none⟩=some (.string (x2::xs)[j]) from fun W hW j hj=>by
    rcases hW.at with⟨h,_⟩|⟨g',aP,h,_,_,_,hc⟩
    ·cases h
    ·simp only[MR,MK,Np] at h;obtain⟨⟨rfl,_⟩,_,_⟩:=h;have:=hc (j+2) ((x2::xs)[j]) (by simp);rw[show 2+j=0+(j+2) by omega];exact this)
   have bj:=a8 (fun j (hj:j<(x2::xs).length)=>ar (x2::xs)[j] (by simp));clear aJ ar aQ;go_wp2;go_loopw [13,15,16,17,87] (fun vl _ _ _ i wr=>∃(j last:Nat) (ds:List Nat) (V:Value),j≤I∧i= .int .i64 (j:Int)∧vl= .int .i64 (last:Int)∧last≤4294967295∧Hid (fh n (((x2::xs).map (·.data.toList)).drop j) last ds=fh n ((x2::xs).map (·.data.toList)) 0 s.dead)∧ds.length≤s.dead.length+j∧Hid (StU wr gs ⟨s.val,n,ds⟩ V)∧Hid (jY wr B V ds)∧Hid (dV gs B w wr)∧Hid (gZ wr J (.slice (some ⟨g,0,none⟩) A cap) (E::z::x2::xs))∧B≤wr.heap.size) (fun _ _ _ _ i _=>I-(intOf i).toNat)
   case atStart=>exact⟨0,0,s.dead,L,MQ _,rfl,rfl,MQ _,a8 rfl,MH _,aA,ax,aD,aB,aF⟩
   case round=>
    obtain⟨j,last,ds,V,hj,rfl,rfl,bt,HG,bD,ae,ah,am,ak,aH⟩:=hrel;by_cases bn:j<I
    ·have bu:(j:Int)<(I:Int):=(by omega);have Y:j<(x2::xs).length:=(by have:=ab.out;omega);have aI:=aU.out wr ak.out j Y;have bq:=bj.out j Y;have N:=a8 (fun u=>yD (n:=n) (last:=last) (u:=u) (xs:=(x2::xs).map (·.data.toList)) (ds:=ds) (j:=j) (by simpa using Y));have az:=a8 (D7 (n:=n) (last:=last) (xs:=(x2::xs).map (·.data.toList)) (ds:=ds) (j:=j) (by simpa using Y));have R:=a8 (fun(X:World)=>Jx (x2::xs)[j] ((last:Int)+1) ((n:Int)-1) (last+1) (n-1) (by omega) (by omega) X (by omega) (by omega));have al:=a8 (show(((x2::xs).map (·.data.toList))[j]'(by simpa using Y))=(x2::xs)[j].data.toList by rw[MY]);generalize bp:(x2::xs)[j]=xj at aI bq R al;clear bp;go_wp2_with fail;refine(R.out wr).mono ?_;rintro e G ⟨u,ok,rfl,M,O⟩;have aE:=a8 (am.out.trans (dV.of_below O aH));have S2:=ae.out.below O ae.out.lt;have ac:=a8 (show jY G B V ds from b9.below ah.out O (MH _));have aj:=a8 (show gZ G J (.slice (some ⟨g,0,none⟩) A cap) (E::z::x2::xs) from sU ak.out O);have aG:B≤G.heap.size:=MN aH O.size;clear O R aI ae ah am ak;cases ok with
     |false=>
      have ai:=a8 (show dY false ((E::z::x2::xs).map (·.data.toList)) s=none by
       rw[HR.out];have h:=HG.out;rw[az.out (by rw[al.out];exact fQ M)] at h;rw[show x2.data.toList::xs.map (·.data.toList)=(x2::xs).map (·.data.toList) from rfl,←h];rfl)
      go_wp2;go_ret;exact⟨aE.out,.inr ⟨ai.out,rfl⟩⟩
     |true=>
      have K:=ew M;have bQ:=ef K;have bR:(u:Int)≤4294967295:=(by omega);have bb:=a8 ((N.out u (by rw[al.out];exact K)).symm.trans HG.out);obtain⟨ad,nd,cd,rfl⟩:=eA ac.out;obtain⟨-,-,-,-,-,-,-,-,c8⟩:=S2.c9;have fz:=fun j=>S2.fz j;have bh:=a8 S2;have bf:=a8 (E1 ac.out aj.out);have bc:=a8 (show g<G.heap.size from by
       rcases aj.out.at with⟨h,_⟩|⟨g',aP,h,h2,_⟩
       ·cases h
       ·simp only[MR,MK,Np] at h;obtain⟨⟨rfl,_⟩,_,_⟩:=h;exact h2)
      have aO:=a8 (fun(v':Value) (w':World) (ho:jY w' B v' (ds++[u])) (hg:(G.alloc (.cells #[.int .u32 (u:Int)] 28)).grownBy w' (Value.slice ad nd cd).ownBlock)=>LA (s1:=⟨s.val,n,ds⟩) (d:=u) bh.out aE.out bl aG ac.out ho hg bc.out bf.out aL);have bd:=a8 (show(G.alloc (.cells #[.int .u32 (u:Int)] 28)).cell? ⟨G.heap.size,0,none⟩=some (.int .u32 (u:Int)) from cell_of_row _ _ 0 _ _ _ (heap_alloc_new G (.cells #[.int .u32 (u:Int)] 28)));have bg:=a8 (show jY (G.alloc (.cells #[.int .u32 (u:Int)] 28)) B (.slice ad nd cd) ds from b9.below ac.out (nAl G _) (MH _));have aR:ds.length≤1048576:=(by have:=aV.out;have:=ab.out;simp at this;omega);have aw:=a8 bn;have bk:B≤(G.alloc (.cells #[.int .u32 (u:Int)] 28)).heap.size:=(by simp;omega);clear S2 K M N az HG;go_wp2_with (first
       |(at_builtin;refine px _ rfl (.tmp 106) (.tmp 109) rfl B (.slice ad nd cd) ds u G.heap.size 1 rfl rfl ?_ ?_ ?_ ?_ ?_;(exact bg.out);(exact bd.out);(exact aR);(exact bk);intro v4 w4 ap aK;obtain⟨⟨e1,e2,e3⟩,e4,e5,e6,e7⟩:=aO.out v4 w4 ap aK;have aW:=a8 e1;have aX:=a8 e2;have aY:=a8 e3;have aZ:=a8 e6;have ba:=a8 e7;clear e1 e2 e3 e6 e7;obtain⟨a4,n4,c4,rfl⟩:=eA ap;clear ap aK)
       |go_in)
      go_roundw
      case rel=>exact⟨j+1,u,ds++[u],_,by have:=aw.out;omega,by go_num,rfl,by omega,bb,by rw[MT];simp;omega,aX,aY,aW,a8 (ny aj.out aZ.out),MN aG ba.out⟩
      case measure=>have:=aw.out;simp[intOf];omega
    ·obtain rfl:j=I:=(by omega);have ai:=a8 (show dY false ((E::z::x2::xs).map (·.data.toList)) s=some ⟨s.val,n,ds⟩ by
      rw[HR.out];have h:=HG.out;rw[List.drop_eq_nil_of_le (by rw[MI,←ab.out];exact MH _),fh] at h;rw[show x2.data.toList::xs.map (·.data.toList)=(x2::xs).map (·.data.toList) from rfl,←h];rfl)
     go_wp2;go_ret;exact⟨am.out,.inl ⟨_,V,ai.out,rfl,ae.out,ah.out⟩⟩
structure FM where
 x:XM
 ba:Option Addr
 bc:Nat
 ea:Option Addr
 ec:Nat
def mlF(m:FM):List Value:=[.int .u32 (m.x.uid:Int),.int .i64 (m.x.stamp:Int),.int .u32 (m.x.flags:Int),.slice m.ba m.x.body.length m.bc,.slice m.ea m.x.entry.length m.ec,.int .i64 (m.x.stamp0:Int),.int .u32 (m.x.flags0:Int),.int .i64 (m.x.bare:Int),.int .i64 (m.x.size:Int),.bool m.x.moved,.string m.x.card]
structure TxB(w:World)(gs:Nat)(v:Value)(a:Option Addr)(c:Nat)(d:List Nat):Prop where
 row:dW w a d
 room:d.length≤c
 cap:c≤9223372036854775807
 ap:∀p,a=some p→p.spot=none∧(0<d.length→p.block≠gs∧v.ownBlock≠some p.block)
theorem TxB.nil(w:World)(gs:Nat)(v:Value):TxB w gs v none 0 []:=⟨fun h=>absurd h (Nat.lt_irrefl _),MH _,by omega,fun p h=>by cases h⟩
theorem TxB.keep{v:Value}(h:TxB w gs v a c d)(L:∀p,a=some p→p.block≠gs→v.ownBlock≠some p.block→p.block<w.heap.size→w'.heap[p.block]? =w.heap[p.block]?):TxB w' gs v a c d:=by
 refine⟨fun z=> ?_,h.room,h.cap,h.ap⟩;obtain⟨b,A,rfl,E⟩:=h.row z;obtain⟨G,I⟩:=(h.ap _ rfl).2 z;have M:b<w.heap.size:=dH (E 0 z);have J:w'.heap[b]? =w.heap[b]? :=L ⟨b,A,none⟩ rfl G I M;exact⟨b,A,rfl,fun i K=>by rw[d5 J];exact E i K⟩
theorem TxB.below{v:Value}(h:TxB w gs v a c d)(z:Below w.heap.size w w'):TxB w' gs v a c d:=h.keep (fun p _ _ _ A=>z.block p.block A)
theorem TxB.drop1{v:Value}(h:TxB w gs v a c d):TxB w gs v a c d.dropLast:=by
 refine⟨?_,by have:=h.room;simp;omega,h.cap,fun p z=>⟨(h.ap p z).1,fun A=>(h.ap p z).2 (by simp at A;omega)⟩⟩;rw[List.dropLast_eq_take];exact h.row.take _
structure gK(w:World)(base gs:Nat)(v:Value)(ms:List FM):Prop where
 own:b9 w base 54 11 v (ms.map mlF)
 tx:∀m∈ms,TxB w gs v m.ba m.bc m.x.body∧TxB w gs v m.ea m.ec m.x.entry
def fm0(m:IM):FM:=⟨xm0 m,none,0,none,0⟩
theorem gK.of{v:Value}{ms:List IM}(gs:Nat)(h:iF w z v ms):gK w z gs v (ms.map fm0):=by
 refine⟨?_,fun m A=> ?_⟩
 ·rw[NC];exact h
 ·obtain⟨i,_,rfl⟩:=Na.1 A;exact⟨TxB.nil _ _ _,TxB.nil _ _ _⟩
theorem gK.keep{v:Value}{ms:List FM}(h:gK w z gs v ms)(E:∀b,b≠gs→b<w.heap.size→w'.heap[b]? =w.heap[b]?)(K:gs<z):gK w' z gs v ms:=
 ⟨b9.keep h.own (fun g I=>E g (by have:=(b9.lt h.own g I).1;omega) (b9.lt h.own g I).2),fun m J=>⟨(h.tx m J).1.keep (fun p _ A _ G=>E _ A G),(h.tx m J).2.keep (fun p _ A _ G=>E _ A G)⟩⟩
theorem gK.below{v:Value}{ms:List FM}(h:gK w A gs v ms)(z:Below w.heap.size w w'):gK w' A gs v ms:=
 ⟨b9.below h.own z (MH _),fun m E=>⟨(h.tx m E).1.below z,(h.tx m E).2.below z⟩⟩
theorem gK.gset{v:Value}{ms:List FM}(h:gK w z gs v ms)(E:gs<z)(u:Value):gK (w.setCell ⟨gs,j,none⟩ u) z gs v ms:=
 h.keep (fun b A _=>heap_setCell_other w ⟨gs,j,none⟩ b u (by simpa using A)) E
theorem gK.put{I:Nat}{ms:List FM}(h:gK w I gs (.slice (some ⟨g,0,none⟩) n cap) ms)(i j:Nat)(Q:i<ms.length)(M:j<11)(u:Value)(z:FM)(L:mlF z=(mlF ms[i]).set j u)
  (J:TxB w gs (.slice (some ⟨g,0,none⟩) n cap) z.ba z.bc z.x.body) (K:TxB w gs (.slice (some ⟨g,0,none⟩) n cap) z.ea z.ec z.x.entry):
  gK (w.setCell ⟨g,i*11+j,none⟩ u) I gs (.slice (some ⟨g,0,none⟩) n cap) (ms.set i z):=by
 have A:∀{a c d},TxB w gs (.slice (some ⟨g,0,none⟩) n cap) a c d→TxB (w.setCell ⟨g,i*11+j,none⟩ u) gs (.slice (some ⟨g,0,none⟩) n cap) a c d:=fun{a c d} N=>N.keep (fun p _ _ E _=>heap_setCell_other w ⟨g,i*11+j,none⟩ p.block u (by
  intro e;exact E (by rw[e];rfl)))
 refine⟨?_,fun m G=> ?_⟩
 ·have E:=h.own.store i j M u;have e:(ms.map mlF).modify i (fun x=>x.set j u)=(ms.set i z).map mlF:=by
   apply List.ext_getElem
   ·simp
   ·intro k O U;rw[List.getElem_modify];have R:k<ms.length:=(by simpa using O);by_cases e:i=k
    ·subst e;simp[L]
    ·simp[e]
  rw[e] at E;exact E
 ·rcases List.mem_or_eq_of_mem_set G with G|rfl
  ·exact⟨A (h.tx m G).1,A (h.tx m G).2⟩
  ·exact⟨A J,A K⟩
theorem gK.slice{v:Value}{ms:List FM}(h:gK w z gs v ms):∃a cap,v= .slice a ms.length cap:=by
 obtain⟨a,cap,e⟩:=h.own.slice;rw[MI] at e;exact⟨a,cap,e⟩
theorem gK.at0{ms:List FM}(h:gK w z gs (.slice a n cap) ms)(A:0<ms.length):∃g,a=some ⟨g,0,none⟩∧z≤g∧g<w.heap.size:=h.own.at0 (by simpa using A)
theorem gK.cell{E:Nat}{ms:List FM}(h:gK w E gs (.slice (some ⟨g,0,none⟩) n cap) ms)(i j:Nat)(z:i<ms.length)(A:j<11):w.cell? ⟨g,i*11+j,none⟩=(mlF ms[i])[j]? :=by
 have G:((ms.map mlF)[i]'(by simpa using z)).length=11:=(by rw[MY];rfl);rw[h.own.cell i j (by simpa using z) (by rw[G];exact A),MM (by show j<11;exact A)];congr 1;simp
theorem gK.frozen{ms:List FM}(h:gK w z gs (.slice (some ⟨g,0,none⟩) n cap) ms)(j:Nat):w.frozen? ⟨g,j,none⟩=false:=h.own.frozen j
theorem nk(gs B:Nat)(I:Nat)(v:Value)(ws:List ByteArray)(s:UX)(w:World)(K:B≤w.heap.size)(hw:gZ w I v ws)(hbad:ws.length<3∨(ws.map (·.data.toList)).head?≠some [88]):
  Calls Tryz.prog 67 #[.pointer (some ⟨gs,0,none⟩),.bool false,v] w (wn gs B false (ws.map (·.data.toList)) s w):=by
 have A:=a8 (show dV gs B w w from dV.of_below (MJ _ _) K);have HC:=a8 (IZ (ws:=ws.map (·.data.toList)) (s:=s) (hbad.imp (fun h=>by simpa using h) id));by_cases hl:ws.length<3
 ·have hli:((ws.length:Nat):Int)<3:=(by omega);rcases hw.at with⟨rfl,rfl⟩|⟨g,cap,rfl,M,_,G,z⟩
  ·clear hw hbad;go_enter Tryz.func67,Tryz.ntmps67;go_wp2;go_ret;exact⟨A.out,.inr ⟨HC.out,rfl⟩⟩
  ·clear hw hbad z;go_enter Tryz.func67,Tryz.ntmps67;go_wp2;go_ret;exact⟨A.out,.inr ⟨HC.out,rfl⟩⟩
 ·have hli:¬((ws.length:Nat):Int)<3:=by omega
  match ws,hl,hw,hbad,HC,hli with
  |x0::rest,hl,hw,hbad,HC,hli=>
   have E:x0.data.toList≠[88]:=by
    rcases hbad with h|h
    ·omega
    ·intro e;exact h (by simp[e])
   have Q:(x0.toList==[88])=false:=(by rw[ByteArray.toList_eq];simpa using E);have O:(x0.toList !=[88])=true:=(by rw[ByteArray.toList_eq];simpa using E);rcases hw.at with⟨_,L⟩|⟨g,cap,rfl,M,_,G,z⟩
   ·cases L
   have U:=z 0 x0 rfl;have J:(0:Int)<(((x0::rest).length:Nat):Int):=(by simp);generalize N:(x0::rest).length=R at hli G J⊢;clear hw hbad z N E;go_enter Tryz.func67,Tryz.ntmps67;go_wp2;go_ret;exact⟨A.out,.inr ⟨HC.out,rfl⟩⟩
theorem ul(gs B:Nat)(z:Nat)(first:Bool)(v:Value)(ws:List ByteArray)(s:UX)(E:Value)(w:World)(I:StU w gs s E)(J:jY w B E s.dead)(G:gs<B)(A:B≤w.heap.size)(M:B≤z)(N:∀k,E.ownBlock=some k→k<z)(hw:gZ w z v ws)(hws:∀y∈ws,y.size≤40000)(K:first=false→1≤s.next∧s.next≤4294967295)(hdl:s.dead.length+ws.length≤1000000):
  Calls Tryz.prog 67 #[.pointer (some ⟨gs,0,none⟩),.bool first,v] w (wn gs B first (ws.map (·.data.toList)) s w):=by
 cases first with
 |true=>exact sx gs B z v ws s E w I J G A hw hws
 |false=>
  match ws,hw,hws,hdl with
  |[],hw,hws,hdl=>exact nk gs B z v [] s w A hw (Or.inl (by simp))
  |[a],hw,hws,hdl=>exact nk gs B z v [a] s w A hw (Or.inl (by simp))
  |[a,b],hw,hws,hdl=>exact nk gs B z v [a,b] s w A hw (Or.inl (by simp))
  |x0::x1::x2::xs,hw,hws,hdl=>
   by_cases L:x0.data.toList=[88]
   ·exact um gs B z v x0 x1 x2 xs s E w I J G A M N hw hws L (K rfl).1 (K rfl).2 (by simp at hdl;omega)
   ·exact nk gs B z v (x0::x1::x2::xs) s w A hw (Or.inr (by simpa using L))
def stX(kind:Int)(val next cur gen taken:Nat)(mv dv:Value):Array Value:= #[.int .i64 0,.int .i64 kind,.int .u32 (val:Int),.int .u32 (next:Int),.int .u32 (cur:Int),.int .i64 (gen:Int),.int .i64 (taken:Int),mv,dv]
abbrev StX(w:World)(g:Nat)(kind:Int)(val next cur gen taken:Nat)(mv dv:Value):Prop:=Blk w g (stX kind val next cur gen taken mv dv) 50
def KT(gs B:Nat)(s:IX)(f:Bool×List Nat)(w:World)(e:Ending)(w':World):Prop:=
 dV gs B w w'∧((∃fs mv',eZ s.mails f=some (fs.map FM.x)∧e= .returned (.bool true)∧StX w' gs 1 s.val s.next 0 s.gen (dF s.mails) mv' (.slice none 0 0)∧gK w' B gs mv' fs)∨(eZ s.mails f=none∧e= .returned (.bool false)))
theorem dV.drew{gs B:Nat}{w w':World}(h:dV gs B w w'):dV gs B w w'.drew:=⟨h.os,h.tape,h.output,h.size,h.block⟩
theorem tI{ms:List IM}{j:Nat}(h:j<ms.length):dF (ms.take (j+1))=dF (ms.take j)+ms[j].size:=by
 unfold dF;rw[gF ms j h,MS,List.sum_append];simp
theorem tH{ms:List IM}(h:∀m∈ms,m.size≤40000):∀j,dF (ms.take j)≤j*40000
 |0=>by simp[dF]
 |j+1=>by
  by_cases z:j<ms.length
  ·rw[tI z];have A:=tH h j;have E:=h _ (MO z);rw[Nat.succ_mul];exact Nat.add_le_add A E
  ·rw[MX (by omega)];have:=tH h j;rw[MX (by omega)] at this;rw[Nat.succ_mul];exact MN this (Nat.le_add_right _ _)
theorem Lk{w:World}{E g n cap:Nat}{ms:List IM}(h:iF w E (.slice (some ⟨g,0,none⟩) n cap) ms)(i:Nat)(z:i<ms.length)(j:Nat)(A:j<11):w.cell? ⟨g,i*11+j,none⟩=(ml0 ms[i])[j]? :=by
 have G:((ms.map ml0)[i]'(by simpa using z)).length=11:=(by rw[MY];rfl);rw[h.cell i j (by simpa using z) (by rw[G];exact A),MM (by show j<11;exact A)];congr 1;simp
theorem fX.belX{gs B:Nat}{w w':World}{a:Option Addr}{c:Nat}{d:List Nat}(h:fX w a c d)(I:dV gs B w w')(J:0<d.length→∀p,a=some p→p.block<B∧p.block≠gs):fX w' a c d:=by
 refine⟨fun z=> ?_,h.room,h.cap,h.byte,h.nl,h.spot⟩;obtain⟨b,A,rfl,K⟩:=h.row z;obtain⟨E,G⟩:=J z _ rfl;exact⟨b,A,rfl,fun i L=>by rw[d5 (I.block b E G)];exact K i L⟩
theorem Ap(v:Value)(w:World):(callFunc 95 #[v]).run Tryz.prog w= .ok (.enter 95 #[v]) w:=by
 kernel_rfl
def FF(d:List Nat)(w:World)(e:Ending)(w':World):Prop:=∃(okb:Bool) (la:Option Addr) (ln lc:Nat),e= .returned (.agg #[.bool okb,.slice la ln lc])∧kH w' w.heap.size (.agg #[.bool okb,.slice la ln lc]) (iy d)∧Below w.heap.size w w'
theorem Fd{d:List Nat}{w:World}{e:Ending}{w':World}(h:i6 d w e w'):FF d w e w':=by
 obtain⟨v,rfl,z,E⟩:=h;cases hs:iy d with
 |none=>
  rw[hs] at z;have A:v= .agg #[.bool false,.slice none 0 0]:=z;subst A;exact⟨false,none,0,0,rfl,by rw[hs];exact z,E⟩
 |some l=>
  rw[hs] at z;obtain⟨J,I,rfl,A,G⟩:=z;obtain⟨a,c,rfl⟩:=G.slice;exact⟨true,a,_,c,rfl,by rw[hs];exact⟨_,I,rfl,A,G⟩,E⟩
theorem dV.high{gs B g j:Nat}{w w':World}(h:dV gs B w w')(E:B≤g)(u:Value):dV gs B w (w'.setCell ⟨g,j,none⟩ u):=
 ⟨h.os,h.tape,h.output,by simpa using h.size,fun k z A=>(heap_setCell_other w' ⟨g,j,none⟩ k u (by simp;omega)).trans (h.block k z A)⟩
structure TxS(gs B cb L bx:Nat)(w wr:World)(s:IX)(g cm:Nat)(fa:Option Addr)(fc:Nat)(d:List Nat)(la:Option Addr)(lc:Nat)(vs:List S3)(l:List (Nat×Nat×List Nat))(fs:List FM):Prop where
 st:StX wr gs 1 s.val s.next 0 s.gen (dF s.mails) (.slice (some ⟨g,0,none⟩) s.mails.length cm) (.slice none 0 0)
 ful:gK wr B gs (.slice (some ⟨g,0,none⟩) s.mails.length cm) fs
 sp:ry wr L (.slice la l.length lc) vs l
 bb:Blk wr bx #[.bool true,.slice la l.length lc] 176
 bt:Blk wr cb #[.bool true,.slice fa d.length fc] 88
 tx:fX wr fa fc d
 xx:dV gs B w wr
 sz:B≤wr.heap.size
 len:fs.length=s.mails.length
 n1:gs<B
 n2:B≤g
 n3:g<cb
 n4:cb<L
 n5:L≤bx
 nt:0<d.length→∀p,fa=some p→p.block<B∧p.block≠gs
section
variable {gs B cb L bx:Nat} {w wr:World} {s:IX} {g cm:Nat} {fa:Option Addr} {fc:Nat} {d:List Nat} {la:Option Addr} {lc:Nat} {vs:List S3} {l:List (Nat×Nat×List Nat)} {fs:List FM}
theorem TxS.below{wr':World}(h:TxS gs B cb L bx w wr s g cm fa fc d la lc vs l fs)(z:Below wr.heap.size wr wr'):TxS gs B cb L bx w wr' s g cm fa fc d la lc vs l fs:=
 ⟨h.st.below z h.st.lt,h.ful.below z,h.sp.below z (MH _),h.bb.below z h.bb.lt,h.bt.below z h.bt.lt,h.tx.below z,h.xx.trans (dV.of_below z h.sz),MN h.sz z.size,h.len,h.n1,h.n2,h.n3,h.n4,h.n5,h.nt⟩
theorem TxS.put(h:TxS gs B cb L bx w wr s g cm fa fc d la lc vs l fs)(i j:Nat)(O:i<fs.length)(Q:j<11)(u:Value)(z:FM)(N:mlF z=(mlF fs[i]).set j u)
  (J:TxB wr gs (.slice (some ⟨g,0,none⟩) s.mails.length cm) z.ba z.bc z.x.body) (K:TxB wr gs (.slice (some ⟨g,0,none⟩) s.mails.length cm) z.ea z.ec z.x.entry):
  TxS gs B cb L bx w (wr.setCell ⟨g,i*11+j,none⟩ u) s g cm fa fc d la lc vs l (fs.set i z):=by
 have U:=h.n1;have G:=h.n2;have V:=h.n3;have Y:=h.n4;have Z:=h.n5;refine⟨h.st.other (by omega) u,h.ful.put i j O Q u z N J K,⟨h.sp.1,h.sp.2.other (by omega) u⟩,h.bb.other (by omega) u,h.bt.other (by omega) u,⟨fun E=> ?_,h.tx.room,h.tx.cap,h.tx.byte,h.tx.nl,h.tx.spot⟩,h.xx.high G u,by simpa using h.sz,by simpa using h.len,U,G,V,Y,Z,h.nt⟩;obtain⟨b,I,rfl,M⟩:=h.tx.row E;obtain⟨A,aa⟩:=h.nt E _ rfl;have A:b<B:=A;exact⟨b,I,rfl,fun k R=>by rw[d5 (heap_setCell_other wr ⟨g,i*11+j,none⟩ b u (by simp;omega))];exact M k R⟩
theorem TxS.body(h:TxS gs B cb L bx w wr s g cm fa fc d la lc vs l fs)(i:Nat)(U:i<l.length):∃(A:Nat) (a:Option Addr) (c:Nat),la=some ⟨A,0,none⟩∧wr.cell? ⟨A,i*3,none⟩=some (.int .i64 (l[i].1:Int))∧wr.cell? ⟨A,i*3+1,none⟩=some (.int .i64 (l[i].2.1:Int))∧wr.cell? ⟨A,i*3+2,none⟩=some (.slice a l[i].2.2.length c)∧TxB wr gs (.slice (some ⟨g,0,none⟩) s.mails.length cm) a c l[i].2.2:=by
 obtain⟨A,Q,Z,R⟩:=h.sp.cells (by omega);obtain⟨x,hx,N,O,G,E⟩:=R i U;obtain⟨a,c,e⟩:=dO.slice E;rw[e] at G E;have n1:=h.n1;have n2:=h.n2;have n3:=h.n3;have n4:=h.n4;refine⟨A,a,c,Q,N,O,G,E.row,?_,?_,?_⟩
 ·rcases E.2 with⟨z,J⟩|⟨I,G,K,z,_,_,M,_⟩
  ·rw[J];exact MQ _
  ·simp only[MR] at z;rw[z.2.2];exact M
 ·rcases E.2 with⟨z,J⟩|⟨I,G,K,z,_,_,M,Y,_⟩
  ·simp only[MR] at z;rw[z.2.2];exact MQ _
  ·simp only[MR] at z;rw[z.2.2];unfold maxLen at Y;omega
 ·intro p V;subst V;rcases E.2 with⟨z,J⟩|⟨I,G,K,z,k3,_⟩
  ·cases z
  ·simp only[MR,MK] at z;obtain⟨rfl,_,_⟩:=z;refine⟨rfl,fun _=>⟨?_,?_⟩⟩
   ·show I≠gs;omega
   ·simp only[Value.ownBlock,ne_eq,MK];omega
end
theorem AH{w w':World}{lo:Nat}{v:Value}{o:Option (List (Nat×Nat×List Nat))}(h:kH w lo v o)(G:Below w.heap.size w w'):kH w' lo v o:=by
 cases o with
 |none=>exact h
 |some l=>
  obtain⟨I,J,z,A,E⟩:=h;exact⟨I,J,z,A,E.below G (MH _)⟩
theorem qJ{w:World}{lo g j:Nat}{v:Value}{o:Option (List (Nat×Nat×List Nat))}(h:kH w lo v o)(G:g<lo)(u:Value):kH (w.setCell ⟨g,j,none⟩ u) lo v o:=by
 cases o with
 |none=>exact h
 |some l=>
  obtain⟨I,J,z,A,E⟩:=h;exact⟨I,J,z,A,E.other G u⟩
theorem Cm{w:World}{lo z:Nat}{v:Value}{o:Option (List (Nat×Nat×List Nat))}(h:kH w lo v o)(I:z≤lo):kH w z v o:=by
 cases o with
 |none=>exact h
 |some l=>
  obtain⟨J,K,A,E,G⟩:=h;exact⟨J,K,A,E,G.mono I⟩
theorem Cn{z A:World}{v x y:Value}{o:Option (List (Nat×Nat×List Nat))}{t:TypeId}(h:kH A z.drew.heap.size v o)(I:Below z.drew.heap.size z.drew A):Blk (A.alloc (.cells #[x,y] t)) A.heap.size #[x,y] t∧kH (A.alloc (.cells #[x,y] t)) z.heap.size v o∧Below z.heap.size z (A.alloc (.cells #[x,y] t))∧z.heap.size≤A.heap.size:=by
 have E:Below z.heap.size z A:=((MJ _ _).drew).trans I;have G:=nAl A (.cells #[x,y] t);exact⟨dN _ _ _,AH h G,E.trans (G.mono E.size),E.size⟩
theorem Co{z A:World}{v x y E G:Value}{o:Option (List (Nat×Nat×List Nat))}{t:TypeId}(h:kH A (z.alloc (.cells #[E,G] t)).drew.heap.size v o)(K:Below (z.alloc (.cells #[E,G] t)).drew.heap.size (z.alloc (.cells #[E,G] t)).drew A)(L:Blk A z.heap.size #[E,G] t):
  Blk ((A.setCell ⟨z.heap.size,0,none⟩ x).setCell ⟨z.heap.size,1,none⟩ y) z.heap.size #[x,y] t∧kH ((A.setCell ⟨z.heap.size,0,none⟩ x).setCell ⟨z.heap.size,1,none⟩ y) z.heap.size v o∧Below z.heap.size z ((A.setCell ⟨z.heap.size,0,none⟩ x).setCell ⟨z.heap.size,1,none⟩ y):=by
 have e:(z.alloc (.cells #[E,G] t)).drew.heap.size=z.heap.size+1:=(by show(z.alloc _).heap.size=_;simp);have J:Below z.heap.size z (z.alloc (.cells #[E,G] t)).drew:=((MJ _ _).alloc (MH _) _).drew;have I:=J.trans (K.mono (by rw[e];omega));rw[e] at h;refine⟨(L.set 0 x).set 1 y,Cm (qJ (qJ h (Nat.lt_succ_self _) x) (Nat.lt_succ_self _) y) (by omega),?_⟩;exact(I.setCell (p:=⟨z.heap.size,0,none⟩) (MH _) x).setCell (p:=⟨z.heap.size,1,none⟩) (MH _) y
theorem vO{d:List Nat}{l:List (Nat×Nat×List Nat)}(h:iy d=some l):∀i (z:i<l.length),l[i].1<l[i].2.1∧l[i].2.1≤d.length∧l[i].2.2.length≤d.length∧d.length≤40000:=by
 unfold iy at h;split at h
 ·cases h
 ·next hn=>
  simp only[MK] at h;subst h;intro i z;have E:i<(dG (d9 d)).length:=(by simpa using z);obtain⟨G,I⟩:=qK d i E;have e:((List.range (dG (d9 d)).length).map (mN d (dG (d9 d))))[i]=mN d (dG (d9 d)) i:=(by simp);rw[e];have J:d.length≤40000:=by
   by_cases A:40000<d.length
   ·exact absurd (Or.inl A) hn
   ·omega
  refine⟨G,I,?_,J⟩;show(dX (ed (f9 d (dG (d9 d)) i))).length≤d.length;have K:=mU (ed (f9 d (dG (d9 d)) i));have L:(ed (f9 d (dG (d9 d)) i)).length≤(f9 d (dG (d9 d)) i).length:=(by unfold ed;rw[MZ,MU];omega);have M:(f9 d (dG (d9 d)) i).length≤d.length:=(by unfold f9;rw[MZ,MU];omega);omega
theorem DP{b:List Nat}(h:0<b.length):jH b=decide (b.getLast?≠some 10):=by
 unfold jH;rw[dif_pos h,List.getLast?_eq_getElem?,MM (by omega)];simp
theorem TxB.rset{w:World}{gs g n cap k:Nat}{a:Option Addr}{c:Nat}{d:List Nat}(h:TxB w gs (.slice (some ⟨g,0,none⟩) n cap) a c d)(u:Value):TxB (w.setCell ⟨g,k,none⟩ u) gs (.slice (some ⟨g,0,none⟩) n cap) a c d:=
 h.keep (fun p _ _ z _=>heap_setCell_other w ⟨g,k,none⟩ p.block u (by intro e;exact z (by rw[e];rfl)))
section
variable {gs B cb L bx:Nat} {w wr:World} {s:IX} {g cm:Nat} {fa:Option Addr} {fc:Nat} {d:List Nat} {la:Option Addr} {lc:Nat} {vs:List S3} {l:List (Nat×Nat×List Nat)} {fs:List FM}
theorem TxS.reput{i:Nat}{m:FM}(h:TxS gs B cb L bx w wr s g cm fa fc d la lc vs l (fs.set i m))(j:Nat)(J:i<fs.length)(K:j<11)(u:Value)(z:FM)(I:mlF z=(mlF m).set j u)
  (E:TxB wr gs (.slice (some ⟨g,0,none⟩) s.mails.length cm) z.ba z.bc z.x.body) (G:TxB wr gs (.slice (some ⟨g,0,none⟩) s.mails.length cm) z.ea z.ec z.x.entry):
  TxS gs B cb L bx w (wr.setCell ⟨g,i*11+j,none⟩ u) s g cm fa fc d la lc vs l (fs.set i z):=by
 have A:=h.put i j (by simpa using J) K u z (by rw[Nh];exact I) E G;rw[List.set_set] at A;exact A
theorem TxS.row(h:TxS gs B cb L bx w wr s g cm fa fc d la lc vs l fs)(i:Nat)(z:i<fs.length)(j:Nat)(A:j<11):wr.cell? ⟨g,i*11+j,none⟩=(mlF fs[i])[j]? :=h.ful.cell i j z A
theorem TxS.c7(h:TxS gs B cb L bx w wr s g cm fa fc d la lc vs l fs):wr.cell? ⟨gs,7,none⟩=some (.slice (some ⟨g,0,none⟩) s.mails.length cm):=h.st.cell 7
theorem TxS.fz(h:TxS gs B cb L bx w wr s g cm fa fc d la lc vs l fs)(j:Nat):wr.frozen? ⟨g,j,none⟩=false:=h.ful.frozen j
theorem TxS.newB(h:TxS gs B cb L bx w wr s g cm fa fc d la lc vs l fs){wr':World}{e:List Nat}(A:dO wr' wr.heap.size (.slice (some ⟨wr.heap.size,0,none⟩) e.length e.length) e)(E:e.length≤1048576):TxB wr' gs (.slice (some ⟨g,0,none⟩) s.mails.length cm) (some ⟨wr.heap.size,0,none⟩) e.length e:=by
 have G:=h.n1;have I:=h.n3;have J:=h.bt.lt;have K:=h.sz;refine⟨A.row,MH _,by omega,fun p z=> ?_⟩;simp only[MK] at z;subst z;refine⟨rfl,fun _=>⟨?_,?_⟩⟩
 ·show wr.heap.size≠gs;omega
 ·simp only[Value.ownBlock,ne_eq,MK];omega
theorem TxS.sub(h:TxS gs B cb L bx w wr s g cm fa fc d la lc vs l fs)(p q:Nat)(A:p<q)(E:q≤d.length):∃b z,fa=some ⟨b,z,none⟩∧dW wr (some ⟨b,z+p,none⟩) ((d.take q).drop p)∧((d.take q).drop p).length=q-p:=by
 obtain⟨b,z,rfl,_⟩:=h.tx.row (by omega);exact⟨b,z,rfl,(h.tx.row.take q).drop p,by rw[MU,MZ];omega⟩
end
structure TxL(w:World)(b0:Nat)(a:Option Addr)(c:Nat)(d:List Nat):Prop where
 row:dW w a d
 room:d.length≤c
 cap:c≤9223372036854775807
 ap:∀p,a=some p→p.spot=none∧(0<d.length→p.block<b0)
theorem TxL.keep(h:TxL w z a c d)(K:∀b,b<z→w'.heap[b]? =w.heap[b]?):TxL w' z a c d:=by
 refine⟨fun A=> ?_,h.room,h.cap,h.ap⟩;obtain⟨b,E,rfl,I⟩:=h.row A;have G:=K b ((h.ap _ rfl).2 A);exact⟨b,E,rfl,fun i J=>by rw[d5 G];exact I i J⟩
theorem TxL.nil(w:World)(z:Nat):TxL w z none 0 []:=⟨fun h=>absurd h (Nat.lt_irrefl _),MH _,by omega,fun p h=>by cases h⟩
structure kn(w:World)(base b0:Nat)(v:Value)(ms:List FM):Prop where
 own:b9 w base 54 11 v (ms.map mlF)
 tx:∀m∈ms,TxL w b0 m.ba m.bc m.x.body∧TxL w b0 m.ea m.ec m.x.entry
theorem kn.keep{v:Value}{ms:List FM}(h:kn w A z v ms)(E:∀b,b<z→w'.heap[b]? =w.heap[b]?)(I:∀g,v.ownBlock=some g→w'.heap[g]? =w.heap[g]?):kn w' A z v ms:=
 ⟨b9.keep h.own I,fun m G=>⟨(h.tx m G).1.keep E,(h.tx m G).2.keep E⟩⟩
theorem kn.below{v:Value}{ms:List FM}(h:kn w A z v ms)(E:Below w.heap.size w w')(I:z≤w.heap.size):kn w' A z v ms:=
 h.keep (fun b h=>E.block b (by omega)) (fun g G=>E.block g (b9.lt h.own g G).2)
theorem kn.cell{E G:Nat}{ms:List FM}(h:kn w E G (.slice (some ⟨g,0,none⟩) n cap) ms)(i j:Nat)(z:i<ms.length)(A:j<11):w.cell? ⟨g,i*11+j,none⟩=(mlF ms[i])[j]? :=by
 have I:((ms.map mlF)[i]'(by simpa using z)).length=11:=(by rw[MY];rfl);rw[h.own.cell i j (by simpa using z) (by rw[I];exact A),MM (by show j<11;exact A)];congr 1;simp
theorem kn.nil(w:World)(z A:Nat):kn w z A (.slice none 0 0) []:=⟨b9.nil _ _ _ _,fun m E=>by cases E⟩
theorem gI{L:Array Oper}{K:List Oper}{E:Act}(w:World)(U:o.guard=none)(s x:Operand)
  (ho:o.op= .call {callee:= .builtin .append,args:= #[s,x],argTypes:= #[47,47]})
  (A:Nat) (v:Value) (ms:List FM) (m:FM) (I c:Nat) (hs:E.eval s=v) (hx:E.eval x= .slice (some ⟨I,0,none⟩) 1 c) (J:b9 w A 54 11 v (ms.map mlF))
  (hc:∀j u,(mlF m)[j]? =some u→w.cell? ⟨I,j,none⟩=some u) (aa:ms.length≤1048576) (N:A≤w.heap.size)
  (h:∀G w',b9 w' A 54 11 G ((ms++[m]).map mlF)→w.grownBy w' v.ownBlock→wpList Tryz.prog L Q K (E.put o.dst G) w'):wpList Tryz.prog L Q (o::K) E w:=by
 obtain⟨i0,hi,V,Y,Z⟩:=info_parts Tryz.infoMailL;have O:w.ownsRow A 54 11 v ms.length (ms.map mlF).flatten:=(by have:=J.2;rw[MI] at this;exact this);refine wpList_append_own w U s x 47 ho A 54 i0 (.agg #[.int .u32 0,.int .i64 0,.int .u32 0,.slice none 0 0,.slice none 0 0,.int .i64 0,.int .u32 0,.int .i64 0,.int .i64 0,.bool false,.string ⟨#[]⟩]) 11 128 Tryz.underlying47 hi V Y Z rfl (by decide) v ms.length (ms.map mlF).flatten hs O ⟨I,0,none⟩ 1 c (mlF m) hx (by simp[mlF]) ?_ ?_ (by unfold maxLen;omega) (by omega) N ?_
 ·intro j u hj;rw[ej,Ng];exact hc j u hj
 ·intro u M;simp only[mlF,M1,Nw,or_false] at M;rcases M with rfl|rfl|rfl|rfl|rfl|rfl|rfl|rfl|rfl|rfl|rfl<;>rfl
 ·intro G w' R hg _;refine h G w' ⟨?_,?_⟩ hg
  ·intro y z;rw[MS,Nb] at z;rcases z with z|z
   ·exact J.1 y z
   ·simp only[M0,Ns,M9] at z;rw[z];rfl
  ·rw[MI,MT,MS,NG];simpa using R
abbrev ie(f:FM):Nat:=f.x.uid
def InR(m:FM)(fs:List FM)(dn:Bool)(os:List FM)(j:Nat):Prop:=
 (dn=true∧iP ie m fs=some (os++fs.drop j)∧(∀x∈fs.drop j,ie m<ie x)∧os.length=j+1)∨(dn=false∧os=fs.take j∧iP ie m fs=(iP ie m (fs.drop j)).map (os++·))
theorem InR.start(m:FM)(fs:List FM):InR m fs false [] 0:=Or.inr ⟨rfl,rfl,by simp⟩
theorem InR.same{m:FM}{fs os:List FM}{E:Bool}(h:InR m fs E os j)(A:j<fs.length)(e:ie fs[j]=ie m):iP ie m fs=none:=by
 rcases h with⟨_,_,z,_⟩|⟨_,_,z⟩
 ·have:=z fs[j] (by rw[fw fs j A];exact Nm);omega
 ·rw[z,fw fs j A,iP,if_pos e];rfl
theorem InR.put{m:FM}{fs os:List FM}(h:InR m fs false os j)(z:j<fs.length)(K:LtG ie fs)(e:ie m<ie fs[j]):InR m fs true (os++[m]++[fs[j]]) (j+1):=by
 rcases h with⟨A,_⟩|⟨_,E,G⟩
 ·cases A
 ·have J:os.length=j:=(by rw[E,MZ];omega);refine Or.inl ⟨rfl,?_,?_,by simp[J]⟩
  ·rw[G,fw fs j z,iP,if_neg (by omega),if_pos e];simp
  ·intro x L;obtain⟨i,I,rfl⟩:=ND.1 L;have:=M8.1 K j (j+1+i) z (by simp at I;omega) (by omega);rw[List.getElem_drop];omega
theorem InR.step{m:FM}{fs os:List FM}{E:Bool}(h:InR m fs E os j)(A:j<fs.length)(e:ie fs[j]≠ie m)(K:E=true∨¬ie m<ie fs[j]):InR m fs E (os++[fs[j]]) (j+1):=by
 rcases h with⟨z,G,I,J⟩|⟨z,G,I⟩
 ·refine Or.inl ⟨z,?_,?_,by simp[J]⟩
  ·rw[G,fw fs j A];simp
  ·intro x M;exact I x (by rw[fw fs j A];exact MV _ M)
 ·refine Or.inr ⟨z,?_,?_⟩
  ·rw[G,gF fs j A]
  ·have L:¬ie m<ie fs[j]:=by
    rcases K with h|h
    ·rw[z] at h;cases h
    ·exact h
   rw[I,fw fs j A,iP,if_neg e,if_neg L];cases iP ie m (fs.drop (j+1))<;>simp
theorem InR.last{m:FM}{fs os:List FM}{A:Bool}(h:InR m fs A os fs.length):iP ie m fs=some (if A=true then os else os++[m]):=by
 rcases h with⟨z,E,_⟩|⟨z,E,G⟩
 ·rw[E,if_pos z,Nx,Nn]
 ·rw[G,if_neg (by rw[z];simp),Nx];rfl
theorem InR.len{m:FM}{fs os:List FM}{z:Bool}(h:InR m fs z os j)(A:j≤fs.length):os.length≤j+1:=by
 rcases h with⟨_,_,_,h⟩|⟨_,h,_⟩
 ·omega
 ·rw[h,MZ];omega
theorem kn.push{G:Nat}{v:Value}{os:List FM}{x:FM}(h:kn w G A v os)(I:TxL w A x.ba x.bc x.x.body∧TxL w A x.ea x.ec x.x.entry)(K:b9 w' G 54 11 J ((os++[x]).map mlF))(E:∀b,b<A→w'.heap[b]? =w.heap[b]?):kn w' G A J (os++[x]):=by
 refine⟨K,fun m z=> ?_⟩;rcases Nb.1 z with z|z
 ·exact⟨(h.tx m z).1.keep E,(h.tx m z).2.keep E⟩
 ·rw[M9] at z;subst z;exact⟨I.1.keep E,I.2.keep E⟩
theorem dV.mono(h:dV gs B w w')(E:z≤B):dV gs z w w':=⟨h.os,h.tape,h.output,h.size,fun k G A=>h.block k (by omega) A⟩
def FC(gs B b0:Nat)(kind:Int)(val next cur gen taken:Nat)(dv:Value)(m:FM)(fs:List FM)(w:World)(e:Ending)(w':World):Prop:=
 dV gs w.heap.size w w'∧((∃fs' mv',iP ie m fs=some fs'∧e= .returned (.bool true)∧StX w' gs kind val next cur gen taken mv' dv∧kn w' B b0 mv' fs')∨(iP ie m fs=none∧e= .returned (.bool false)))
theorem wU{A:World}{J:Nat}{os:List FM}{x:FM}{o:Obj}(G:Below w.heap.size w wr)(O:kn wr (w.heap.size+1) J K os)(R:TxL wr J x.ba x.bc x.x.body∧TxL wr J x.ea x.ec x.x.entry)(U:J≤w.heap.size)(Y:w.heap.size+1≤wr.heap.size)
  (Q:b9 A (w.heap.size+1) 54 11 v4 ((os++[x]).map mlF)) (I:(wr.alloc o).grownBy A K.ownBlock):Below w.heap.size w A∧kn A (w.heap.size+1) J v4 (os++[x])∧(∀b,b<wr.heap.size→K.ownBlock≠some b→A.heap[b]? =wr.heap[b]?)∧wr.heap.size≤A.heap.size:=by
 have z:=nAl wr o;have M:∀b,b<wr.heap.size→K.ownBlock≠some b→A.heap[b]? =wr.heap[b]? :=fun b E L=>(I.block b (by have:=z.size;omega) (fun e=>L e.symm)).trans (z.block b E);have N:∀b,b≤w.heap.size→K.ownBlock≠some b:=fun b E L=>(by have:=(b9.lt O.own b L).1;omega);refine⟨⟨I.os.trans (z.os.trans G.os),I.tape.trans (z.tape.trans G.tape),I.output.trans (z.output.trans G.output),?_,fun b E=> ?_⟩,O.push R Q (fun b E=>M b (by omega) (N b (by omega))),M,MN z.size I.size⟩
 ·have E:=I.size;have L:=z.size;have V:=G.size;omega
 ·exact(M b (by have:=G.size;omega) (N b (by omega))).trans (G.block b E)
theorem Blk.keepB(h:Blk w g cs t)(z:w'.heap[g]? =w.heap[g]?):Blk w' g cs t:=z.trans h
theorem oQ{m:FM}(h:Blk w g (mlF m).toArray 54):∀j u,(mlF m)[j]? =some u→w.cell? ⟨g,j,none⟩=some u:=fun j u z=>by
 rw[h.cell j];simpa using z
theorem xo(gs B G:Nat)(aB:Int)(val next aC gen aA:Nat)(mv dv:Value)(fs:List FM)(m:FM)(w:World)(aE:StX w gs aB val next aC gen aA mv dv)(hf:kn w B G mv fs)(bt:gs<B)(hB:B≤w.heap.size)(bp:G≤gs)(hm:TxL w G m.ba m.bc m.x.body∧TxL w G m.ea m.ec m.x.entry)(hs:LtG ie fs)(hl:fs.length≤1000):
  Calls Tryz.prog 69 #[.pointer (some ⟨gs,0,none⟩),.agg #[.int .u32 (m.x.uid:Int),.int .i64 (m.x.stamp:Int),.int .u32 (m.x.flags:Int),.slice m.ba m.x.body.length m.bc,.slice m.ea m.x.entry.length m.ec,.int .i64 (m.x.stamp0:Int),.int .u32 (m.x.flags0:Int),.int .i64 (m.x.bare:Int),.int .i64 (m.x.size:Int),.bool m.x.moved,.string m.x.card]] w (FC gs B G aB val next aC gen aA dv m fs w):=by
 obtain⟨am,cm,aO⟩:=hf.own.slice;rw[MI] at aO;subst aO;have Q:=nAl w (.cells #[.int .u32 (m.x.uid:Int),.int .i64 (m.x.stamp:Int),.int .u32 (m.x.flags:Int),.slice m.ba m.x.body.length m.bc,.slice m.ea m.x.entry.length m.ec,.int .i64 (m.x.stamp0:Int),.int .u32 (m.x.flags0:Int),.int .i64 (m.x.bare:Int),.int .i64 (m.x.size:Int),.bool m.x.moved,.string m.x.card] 54);have aL:=a8 (dN w #[.int .u32 (m.x.uid:Int),.int .i64 (m.x.stamp:Int),.int .u32 (m.x.flags:Int),.slice m.ba m.x.body.length m.bc,.slice m.ea m.x.entry.length m.ec,.int .i64 (m.x.stamp0:Int),.int .u32 (m.x.flags0:Int),.int .i64 (m.x.bare:Int),.int .i64 (m.x.size:Int),.bool m.x.moved,.string m.x.card] 54);have aK:=a8 Q;have c7:(w.alloc (.cells #[.int .u32 (m.x.uid:Int),.int .i64 (m.x.stamp:Int),.int .u32 (m.x.flags:Int),.slice m.ba m.x.body.length m.bc,.slice m.ea m.x.entry.length m.ec,.int .i64 (m.x.stamp0:Int),.int .u32 (m.x.flags0:Int),.int .i64 (m.x.bare:Int),.int .i64 (m.x.size:Int),.bool m.x.moved,.string m.x.card] 54)).cell? ⟨gs,7,none⟩=some (.slice am fs.length cm):=(aE.below Q (by omega)).cell 7;have aQ:w.heap.size+1≤(w.alloc (.cells #[.int .u32 (m.x.uid:Int),.int .i64 (m.x.stamp:Int),.int .u32 (m.x.flags:Int),.slice m.ba m.x.body.length m.bc,.slice m.ea m.x.entry.length m.ec,.int .i64 (m.x.stamp0:Int),.int .u32 (m.x.flags0:Int),.int .i64 (m.x.bare:Int),.int .i64 (m.x.size:Int),.bool m.x.moved,.string m.x.card] 54)).heap.size:=(by simp);have aM:=a8 aE;have HF:=a8 hf;have HM:=a8 hm;have HS:=a8 hs;clear aE hf hm hs Q;go_enter Tryz.func69,Tryz.ntmps69;go_upto_region 1 with fail;generalize w.alloc (.cells #[.int .u32 (m.x.uid:Int),.int .i64 (m.x.stamp:Int),.int .u32 (m.x.flags:Int),.slice m.ba m.x.body.length m.bc,.slice m.ea m.x.entry.length m.ec,.int .i64 (m.x.stamp0:Int),.int .u32 (m.x.flags0:Int),.int .i64 (m.x.bare:Int),.int .i64 (m.x.size:Int),.bool m.x.moved,.string m.x.card] 54)=w0 at aL aK c7 aQ⊢;go_wp2;clear c7;go_loopw [5,6,8,14] (fun ov bd _ i wr=>∃(j:Nat) (dn:Bool) (os:List FM),j≤fs.length∧i= .int .i64 (j:Int)∧bd= .bool dn∧Hid (InR m fs dn os j)∧Hid (kn wr (w.heap.size+1) G ov os)∧Hid (Below w.heap.size w wr)∧Hid (Blk wr w.heap.size #[.int .u32 (m.x.uid:Int),.int .i64 (m.x.stamp:Int),.int .u32 (m.x.flags:Int),.slice m.ba m.x.body.length m.bc,.slice m.ea m.x.entry.length m.ec,.int .i64 (m.x.stamp0:Int),.int .u32 (m.x.flags0:Int),.int .i64 (m.x.bare:Int),.int .i64 (m.x.size:Int),.bool m.x.moved,.string m.x.card] 54)∧w.heap.size+1≤wr.heap.size) (fun _ _ _ i _=>fs.length-(intOf i).toNat)
 case atStart=>exact⟨0,false,[],MQ _,rfl,rfl,a8 (InR.start m fs),a8 (kn.nil _ _ _),aK,aL,aQ⟩
 case round=>
  obtain⟨j,dn,os,hj,rfl,rfl,HR,HO,HB,J,bi⟩:=hrel;obtain⟨Y,no,Z,rfl⟩:=eA HO.out.own;have bw:=HR.out.len hj;have au:G≤w.heap.size:=(by omega);have ap:=a8 (fun g E=>b9.lt HO.out.own g E);by_cases aq:j<fs.length
  ·have bm:(j:Int)<(fs.length:Int):=(by omega);have aD:=HF.out.below HB.out (by omega);obtain⟨g,be,br,bu⟩:=HF.out.own.at0 (by rw[MI];omega);subst be;have ax:=a8 (aD.tx fs[j] (MO aq));have al:=a8 (show TxL wr G m.ba m.bc m.x.body∧TxL wr G m.ea m.ec m.x.entry from⟨HM.out.1.keep (fun b V=>HB.out.block b (by omega)),HM.out.2.keep (fun b V=>HB.out.block b (by omega))⟩);have U:=fun k hk=>aD.cell j k aq hk;have aF:=a8 (fun e=>HR.out.same aq e);have aI:=a8 (fun(h:dn=false)=>(by subst h;exact fun e=>HR.out.put aq HS.out e):dn=false→ie m<ie fs[j]→InR m fs true (os++[m]++[fs[j]]) (j+1));have aG:=a8 (fun e hc=>HR.out.step aq e hc);generalize fs[j]=X at ax U aF aI aG;have k0:wr.cell? ⟨g,j*11,none⟩=some (.int .u32 (X.x.uid:Int)):=U 0 (by omega);have k1:wr.cell? ⟨g,j*11+1,none⟩=some (.int .i64 (X.x.stamp:Int)):=U 1 (by omega);have k2:wr.cell? ⟨g,j*11+2,none⟩=some (.int .u32 (X.x.flags:Int)):=U 2 (by omega);have k3:wr.cell? ⟨g,j*11+3,none⟩=some (.slice X.ba X.x.body.length X.bc):=U 3 (by omega);have k4:wr.cell? ⟨g,j*11+4,none⟩=some (.slice X.ea X.x.entry.length X.ec):=U 4 (by omega);have k5:wr.cell? ⟨g,j*11+5,none⟩=some (.int .i64 (X.x.stamp0:Int)):=U 5 (by omega);have k6:wr.cell? ⟨g,j*11+6,none⟩=some (.int .u32 (X.x.flags0:Int)):=U 6 (by omega);have k7:wr.cell? ⟨g,j*11+7,none⟩=some (.int .i64 (X.x.bare:Int)):=U 7 (by omega);have k8:wr.cell? ⟨g,j*11+8,none⟩=some (.int .i64 (X.x.size:Int)):=U 8 (by omega);have k9:wr.cell? ⟨g,j*11+9,none⟩=some (.bool X.x.moved):=U 9 (by omega);have bj:wr.cell? ⟨g,j*11+10,none⟩=some (.string X.x.card):=U 10 (by omega);have Q:=nAl wr (.cells #[.int .u32 (X.x.uid:Int),.int .i64 (X.x.stamp:Int),.int .u32 (X.x.flags:Int),.slice X.ba X.x.body.length X.bc,.slice X.ea X.x.entry.length X.ec,.int .i64 (X.x.stamp0:Int),.int .u32 (X.x.flags0:Int),.int .i64 (X.x.bare:Int),.int .i64 (X.x.size:Int),.bool X.x.moved,.string X.x.card] 54);have K:=a8 (dN wr #[.int .u32 (X.x.uid:Int),.int .i64 (X.x.stamp:Int),.int .u32 (X.x.flags:Int),.slice X.ba X.x.body.length X.bc,.slice X.ea X.x.entry.length X.ec,.int .i64 (X.x.stamp0:Int),.int .u32 (X.x.flags0:Int),.int .i64 (X.x.bare:Int),.int .i64 (X.x.size:Int),.bool X.x.moved,.string X.x.card] 54);have an:=a8 (HO.out.below Q (by omega));have av:=bTr HB Q;have I:=a8 (J.out.below Q J.out.lt);have ar:=a8 (show TxL _ G X.ba X.bc X.x.body∧TxL _ G X.ea X.ec X.x.entry from⟨ax.out.1.keep (fun b V=>Q.block b (by omega)),ax.out.2.keep (fun b V=>Q.block b (by omega))⟩);have aH:=a8 (show TxL _ G m.ba m.bc m.x.body∧TxL _ G m.ea m.ec m.x.entry from⟨al.out.1.keep (fun b V=>Q.block b (by omega)),al.out.2.keep (fun b V=>Q.block b (by omega))⟩);have ay:=MN bi Q.size;clear U aD Q ax al HO HB J;go_upto_region 6 with fail;clear k0 k1 k2 k3 k4 k5 k6 k7 k8 k9 bj;generalize bg:wr.alloc (.cells #[.int .u32 (X.x.uid:Int),.int .i64 (X.x.stamp:Int),.int .u32 (X.x.flags:Int),.slice X.ba X.x.body.length X.bc,.slice X.ea X.x.entry.length X.ec,.int .i64 (X.x.stamp0:Int),.int .u32 (X.x.flags0:Int),.int .i64 (X.x.bare:Int),.int .i64 (X.x.size:Int),.bool X.x.moved,.string X.x.card] 54)=W at K an av I ar aH ay⊢;clear bg;obtain⟨n0,n1,n2,n3,n4,n5,n6,n7,n8,n9,bk⟩:=K.out.c11;obtain⟨p0,p1,p2,p3,p4,p5,p6,p7,p8,p9,az⟩:=I.out.c11;by_cases he:X.x.uid=m.x.uid
   ·have HN:=a8 (aF.out he);rw[he] at n0;clear he;go_wp2;go_ret;exact⟨dV.of_below av.out (MH _),.inr ⟨HN.out,rfl⟩⟩
   ·have bq:((X.x.uid:Int)==(m.x.uid:Int))=false:=(by simp;omega);by_cases hc:dn=false∧m.x.uid<X.x.uid
    ·obtain⟨rfl,hu⟩:=hc;have bf:(m.x.uid:Int)<(X.x.uid:Int):=(by omega);have aw:=a8 (aI.out rfl hu);have ae:=a8 (show b9 (W.alloc (.cells #[.int .u32 (m.x.uid:Int),.int .i64 (m.x.stamp:Int),.int .u32 (m.x.flags:Int),.slice m.ba m.x.body.length m.bc,.slice m.ea m.x.entry.length m.ec,.int .i64 (m.x.stamp0:Int),.int .u32 (m.x.flags0:Int),.int .i64 (m.x.bare:Int),.int .i64 (m.x.size:Int),.bool m.x.moved,.string m.x.card] 54)) (w.heap.size+1) 54 11 (.slice Y no Z) (List.map mlF os) from b9.below an.out.own (nAl W _) (MH _));have ad:=a8 (oQ (m:=m) (show Blk (W.alloc (.cells #[.int .u32 (m.x.uid:Int),.int .i64 (m.x.stamp:Int),.int .u32 (m.x.flags:Int),.slice m.ba m.x.body.length m.bc,.slice m.ea m.x.entry.length m.ec,.int .i64 (m.x.stamp0:Int),.int .u32 (m.x.flags0:Int),.int .i64 (m.x.bare:Int),.int .i64 (m.x.size:Int),.bool m.x.moved,.string m.x.card] 54)) W.heap.size (mlF m).toArray 54 from dN W _ _));have af:w.heap.size+1≤(W.alloc (.cells #[.int .u32 (m.x.uid:Int),.int .i64 (m.x.stamp:Int),.int .u32 (m.x.flags:Int),.slice m.ba m.x.body.length m.bc,.slice m.ea m.x.entry.length m.ec,.int .i64 (m.x.stamp0:Int),.int .u32 (m.x.flags0:Int),.int .i64 (m.x.bare:Int),.int .i64 (m.x.size:Int),.bool m.x.moved,.string m.x.card] 54)).heap.size:=(by simp;omega);have ah:=a8 (fun(v4:Value) (w4:World) (A:b9 w4 (w.heap.size+1) 54 11 v4 (List.map mlF (os++[m]))) (E:(W.alloc (.cells #[.int .u32 (m.x.uid:Int),.int .i64 (m.x.stamp:Int),.int .u32 (m.x.flags:Int),.slice m.ba m.x.body.length m.bc,.slice m.ea m.x.entry.length m.ec,.int .i64 (m.x.stamp0:Int),.int .u32 (m.x.flags0:Int),.int .i64 (m.x.bare:Int),.int .i64 (m.x.size:Int),.bool m.x.moved,.string m.x.card] 54)).grownBy w4 (Value.ownBlock (.slice Y no Z)))=>wU av.out an.out aH.out au (by omega) A E);have aP:os.length≤1048576:=(by omega);go_upto_region 11 with(first
      |(at_builtin;refine gI _ rfl (.tmp 32) (.tmp 34) rfl (w.heap.size+1) (.slice Y no Z) os m W.heap.size 1 rfl rfl ?_ ?_ ?_ ?_ ?_;(exact ae.out);(exact ad.out);(omega);(exact af);intro v5 z A E;obtain⟨L,M,N,O⟩:=ah.out v5 z A E;have ac:=a8 L;have aa:=a8 M;have ab:=a8 N;have ag:=a8 O;clear L M N O;obtain⟨ai,ak,aj,rfl⟩:=eA A;clear A E)
      |go_in)
     have R:=K.out.keepB (ab.out wr.heap.size K.out.lt (fun e=>by have:=(ap.out _ e).2;omega));have aT:=a8 (show TxL z G X.ba X.bc X.x.body∧TxL z G X.ea X.ec X.x.entry from⟨ar.out.1.keep (fun b V=>ab.out b (by omega) (fun e=>by have:=(ap.out _ e).1;omega)),ar.out.2.keep (fun b V=>ab.out b (by omega) (fun e=>by have:=(ap.out _ e).1;omega))⟩);have M5:=a8 (I.out.keepB (ab.out w.heap.size I.out.lt (fun e=>by have:=(ap.out _ e).1;omega)));have bh:w.heap.size+1≤z.heap.size:=MN ay ag.out;clear n0 n1 n2 n3 n4 n5 n6 n7 n8 n9 bk p0 p1 p2 p3 p4 p5 p6 p7 p8 p9 az;obtain⟨q0,q1,q2,q3,q4,q5,q6,q7,q8,q9,bB⟩:=R.c11;have bo:=a8 R;have bn:(os++[m]).length≤1048576:=(by simp;omega);clear R;have aU:=a8 (show b9 (z.alloc (.cells #[.int .u32 (X.x.uid:Int),.int .i64 (X.x.stamp:Int),.int .u32 (X.x.flags:Int),.slice X.ba X.x.body.length X.bc,.slice X.ea X.x.entry.length X.ec,.int .i64 (X.x.stamp0:Int),.int .u32 (X.x.flags0:Int),.int .i64 (X.x.bare:Int),.int .i64 (X.x.size:Int),.bool X.x.moved,.string X.x.card] 54)) (w.heap.size+1) 54 11 (.slice ai ak aj) (List.map mlF (os++[m])) from b9.below aa.out.own (nAl z _) (MH _));have aS:=a8 (oQ (m:=X) (show Blk (z.alloc (.cells #[.int .u32 (X.x.uid:Int),.int .i64 (X.x.stamp:Int),.int .u32 (X.x.flags:Int),.slice X.ba X.x.body.length X.bc,.slice X.ea X.x.entry.length X.ec,.int .i64 (X.x.stamp0:Int),.int .u32 (X.x.flags0:Int),.int .i64 (X.x.bare:Int),.int .i64 (X.x.size:Int),.bool X.x.moved,.string X.x.card] 54)) z.heap.size (mlF X).toArray 54 from dN z _ _));have aV:w.heap.size+1≤(z.alloc (.cells #[.int .u32 (X.x.uid:Int),.int .i64 (X.x.stamp:Int),.int .u32 (X.x.flags:Int),.slice X.ba X.x.body.length X.bc,.slice X.ea X.x.entry.length X.ec,.int .i64 (X.x.stamp0:Int),.int .u32 (X.x.flags0:Int),.int .i64 (X.x.bare:Int),.int .i64 (X.x.size:Int),.bool X.x.moved,.string X.x.card] 54)).heap.size:=(by simp;omega);have bb:=a8 (fun(v4:Value) (w4:World) (A:b9 w4 (w.heap.size+1) 54 11 v4 (List.map mlF ((os++[m])++[X]))) (E:(z.alloc (.cells #[.int .u32 (X.x.uid:Int),.int .i64 (X.x.stamp:Int),.int .u32 (X.x.flags:Int),.slice X.ba X.x.body.length X.bc,.slice X.ea X.x.entry.length X.ec,.int .i64 (X.x.stamp0:Int),.int .u32 (X.x.flags0:Int),.int .i64 (X.x.bare:Int),.int .i64 (X.x.size:Int),.bool X.x.moved,.string X.x.card] 54)).grownBy w4 (Value.ownBlock (.slice ai ak aj)))=>wU ac.out aa.out aT.out au (by omega) A E);go_wp2_with (first
      |(at_builtin;refine gI _ rfl (.tmp 36) (.tmp 38) rfl (w.heap.size+1) (.slice ai ak aj) (os++[m]) X z.heap.size 1 rfl rfl ?_ ?_ ?_ ?_ ?_;(exact aU.out);(exact aS.out);(omega);(exact aV);intro v6 w6 A E;obtain⟨L,M,N,O⟩:=bb.out v6 w6 A E;have aW:=a8 L;have aX:=a8 M;have aY:=a8 N;have aZ:=a8 O;clear L M N O;obtain⟨bx,bA,bz,rfl⟩:=eA A;clear A E)
      |go_in)
     have M6:=a8 (M5.out.keepB (aY.out w.heap.size M5.out.lt (fun e=>by have:=(b9.lt aa.out.own _ e).1;omega)));go_roundw
     case rel=>exact⟨j+1,true,os++[m]++[X],by omega,by go_num,rfl,aw,aX,aW,M6,MN bh aZ.out⟩
     case measure=>simp[intOf];omega
    ·have aw:=a8 (aG.out he (by
      cases dn with
      |true=>exact Or.inl rfl
      |false=>exact Or.inr (fun h=>hc ⟨rfl,h⟩)))
     have ae:=a8 (show b9 (W.alloc (.cells #[.int .u32 (X.x.uid:Int),.int .i64 (X.x.stamp:Int),.int .u32 (X.x.flags:Int),.slice X.ba X.x.body.length X.bc,.slice X.ea X.x.entry.length X.ec,.int .i64 (X.x.stamp0:Int),.int .u32 (X.x.flags0:Int),.int .i64 (X.x.bare:Int),.int .i64 (X.x.size:Int),.bool X.x.moved,.string X.x.card] 54)) (w.heap.size+1) 54 11 (.slice Y no Z) (List.map mlF os) from b9.below an.out.own (nAl W _) (MH _));have ad:=a8 (oQ (m:=X) (show Blk (W.alloc (.cells #[.int .u32 (X.x.uid:Int),.int .i64 (X.x.stamp:Int),.int .u32 (X.x.flags:Int),.slice X.ba X.x.body.length X.bc,.slice X.ea X.x.entry.length X.ec,.int .i64 (X.x.stamp0:Int),.int .u32 (X.x.flags0:Int),.int .i64 (X.x.bare:Int),.int .i64 (X.x.size:Int),.bool X.x.moved,.string X.x.card] 54)) W.heap.size (mlF X).toArray 54 from dN W _ _));have af:w.heap.size+1≤(W.alloc (.cells #[.int .u32 (X.x.uid:Int),.int .i64 (X.x.stamp:Int),.int .u32 (X.x.flags:Int),.slice X.ba X.x.body.length X.bc,.slice X.ea X.x.entry.length X.ec,.int .i64 (X.x.stamp0:Int),.int .u32 (X.x.flags0:Int),.int .i64 (X.x.bare:Int),.int .i64 (X.x.size:Int),.bool X.x.moved,.string X.x.card] 54)).heap.size:=(by simp;omega);have ah:=a8 (fun(v4:Value) (w4:World) (A:b9 w4 (w.heap.size+1) 54 11 v4 (List.map mlF (os++[X]))) (E:(W.alloc (.cells #[.int .u32 (X.x.uid:Int),.int .i64 (X.x.stamp:Int),.int .u32 (X.x.flags:Int),.slice X.ba X.x.body.length X.bc,.slice X.ea X.x.entry.length X.ec,.int .i64 (X.x.stamp0:Int),.int .u32 (X.x.flags0:Int),.int .i64 (X.x.bare:Int),.int .i64 (X.x.size:Int),.bool X.x.moved,.string X.x.card] 54)).grownBy w4 (Value.ownBlock (.slice Y no Z)))=>wU av.out an.out ar.out au (by omega) A E);have aP:os.length≤1048576:=(by omega);have aN:=a8 (fun(z:World) (hk:∀b,b<W.heap.size→(Value.slice Y no Z).ownBlock≠some b→z.heap[b]? =W.heap[b]?)=>I.out.keepB (hk w.heap.size I.out.lt (fun e=>by have:=(ap.out _ e).1;omega)));cases dn with
     |true=>
      clear hc he;go_wp2_with (first
       |(at_builtin;refine gI _ rfl (.tmp 36) (.tmp 38) rfl (w.heap.size+1) (.slice Y no Z) os X W.heap.size 1 rfl rfl ?_ ?_ ?_ ?_ ?_;(exact ae.out);(exact ad.out);(omega);(exact af);intro v5 z A E;obtain⟨L,M,N,O⟩:=ah.out v5 z A E;have ac:=a8 L;have aa:=a8 M;have ab:=a8 N;have ag:=a8 O;clear L M N O;obtain⟨ai,ak,aj,rfl⟩:=eA A;clear A E)
       |go_in)
      go_roundw
      case rel=>exact⟨j+1,true,os++[X],by omega,by go_num,rfl,aw,aa,ac,a8 (aN.out z ab.out),MN ay ag.out⟩
      case measure=>simp[intOf];omega
     |false=>
      have bf:¬(m.x.uid:Int)<(X.x.uid:Int):=fun h=>hc ⟨rfl,by omega⟩;clear hc he;go_wp2_with (first
       |(at_builtin;refine gI _ rfl (.tmp 36) (.tmp 38) rfl (w.heap.size+1) (.slice Y no Z) os X W.heap.size 1 rfl rfl ?_ ?_ ?_ ?_ ?_;(exact ae.out);(exact ad.out);(omega);(exact af);intro v5 z A E;obtain⟨L,M,N,O⟩:=ah.out v5 z A E;have ac:=a8 L;have aa:=a8 M;have ab:=a8 N;have ag:=a8 O;clear L M N O;obtain⟨ai,ak,aj,rfl⟩:=eA A;clear A E)
       |go_in)
      go_roundw
      case rel=>exact⟨j+1,false,os++[X],by omega,by go_num,rfl,aw,aa,ac,a8 (aN.out z ab.out),MN ay ag.out⟩
      case measure=>simp[intOf];omega
  ·obtain rfl:j=fs.length:=(by omega);have HL:=a8 HR.out.last;have bl:=a8 (aM.out.below HB.out (by omega));have al:=a8 (show TxL wr G m.ba m.bc m.x.body∧TxL wr G m.ea m.ec m.x.entry from⟨HM.out.1.keep (fun b V=>HB.out.block b (by omega)),HM.out.2.keep (fun b V=>HB.out.block b (by omega))⟩);obtain⟨p0,p1,p2,p3,p4,p5,p6,p7,p8,p9,az⟩:=J.out.c11;have aJ:=a8 (fun(W:World) (v:Value) (aR:List FM) (V:Below w.heap.size w W) (hf:kn W (w.heap.size+1) G v aR)=>((by
    have h7:=aM.out.below V (by omega);refine⟨h7.cell 7,h7.fz 7,(dV.of_below V (MH _)).set _,?_,?_⟩
    ·have h:=h7.set 7 v;show Blk _ gs (stX _ _ _ _ _ _ _ _) _;simpa[stX] using h
    ·have hk:=hf.keep (w':=W.setCell ⟨gs,7,none⟩ v) (fun b h=>heap_setCell_other W ⟨gs,7,none⟩ b v (by simp;omega)) (fun g E=>heap_setCell_other W ⟨gs,7,none⟩ g v (by have:=(b9.lt hf.own g E).1;simp;omega));exact⟨hk.own.mono (by omega),hk.tx⟩):W.cell? ⟨gs,7,none⟩=some (.slice am fs.length cm)∧W.frozen? ⟨gs,7,none⟩=false∧dV gs w.heap.size w (W.setCell ⟨gs,7,none⟩ v)∧StX (W.setCell ⟨gs,7,none⟩ v) gs aB val next aC gen aA v dv∧kn (W.setCell ⟨gs,7,none⟩ v) B G v aR))
   cases dn with
   |true=>
    obtain⟨g7,f7,r1,r2,r3⟩:=aJ.out wr _ os HB.out HO.out;have R1:=a8 r1;have R2:=a8 r2;have R3:=a8 r3;clear r1 r2 r3 p0 p1 p2 p3 p4 p5 p6 p7 p8 p9 az;go_wp2;go_ret;exact⟨R1.out,.inl ⟨os,_,HL.out,rfl,R2.out,R3.out⟩⟩
   |false=>
    have ae:=a8 (show b9 (wr.alloc (.cells #[.int .u32 (m.x.uid:Int),.int .i64 (m.x.stamp:Int),.int .u32 (m.x.flags:Int),.slice m.ba m.x.body.length m.bc,.slice m.ea m.x.entry.length m.ec,.int .i64 (m.x.stamp0:Int),.int .u32 (m.x.flags0:Int),.int .i64 (m.x.bare:Int),.int .i64 (m.x.size:Int),.bool m.x.moved,.string m.x.card] 54)) (w.heap.size+1) 54 11 (.slice Y no Z) (List.map mlF os) from b9.below HO.out.own (nAl wr _) (MH _));have ad:=a8 (oQ (m:=m) (show Blk (wr.alloc (.cells #[.int .u32 (m.x.uid:Int),.int .i64 (m.x.stamp:Int),.int .u32 (m.x.flags:Int),.slice m.ba m.x.body.length m.bc,.slice m.ea m.x.entry.length m.ec,.int .i64 (m.x.stamp0:Int),.int .u32 (m.x.flags0:Int),.int .i64 (m.x.bare:Int),.int .i64 (m.x.size:Int),.bool m.x.moved,.string m.x.card] 54)) wr.heap.size (mlF m).toArray 54 from dN wr _ _));have af:w.heap.size+1≤(wr.alloc (.cells #[.int .u32 (m.x.uid:Int),.int .i64 (m.x.stamp:Int),.int .u32 (m.x.flags:Int),.slice m.ba m.x.body.length m.bc,.slice m.ea m.x.entry.length m.ec,.int .i64 (m.x.stamp0:Int),.int .u32 (m.x.flags0:Int),.int .i64 (m.x.bare:Int),.int .i64 (m.x.size:Int),.bool m.x.moved,.string m.x.card] 54)).heap.size:=(by simp;omega);have ah:=a8 (fun(v4:Value) (w4:World) (A:b9 w4 (w.heap.size+1) 54 11 v4 (List.map mlF (os++[m]))) (E:(wr.alloc (.cells #[.int .u32 (m.x.uid:Int),.int .i64 (m.x.stamp:Int),.int .u32 (m.x.flags:Int),.slice m.ba m.x.body.length m.bc,.slice m.ea m.x.entry.length m.ec,.int .i64 (m.x.stamp0:Int),.int .u32 (m.x.flags0:Int),.int .i64 (m.x.bare:Int),.int .i64 (m.x.size:Int),.bool m.x.moved,.string m.x.card] 54)).grownBy w4 (Value.ownBlock (.slice Y no Z)))=>wU HB.out HO.out al.out au (by omega) A E);have aP:os.length≤1048576:=(by omega);go_upto_region 15 with(first
     |(at_builtin;refine gI _ rfl (.tmp 43) (.tmp 45) rfl (w.heap.size+1) (.slice Y no Z) os m wr.heap.size 1 rfl rfl ?_ ?_ ?_ ?_ ?_;(exact ae.out);(exact ad.out);(omega);(exact af);intro v5 z A E;obtain⟨L,M,N,O⟩:=ah.out v5 z A E;have ac:=a8 L;have aa:=a8 M;have ab:=a8 N;have ag:=a8 O;clear L M N O;obtain⟨ai,ak,aj,rfl⟩:=eA A;clear A E)
     |go_in)
    obtain⟨g7,f7,r1,r2,r3⟩:=aJ.out z _ (os++[m]) ac.out aa.out;have R1:=a8 r1;have R2:=a8 r2;have R3:=a8 r3;clear r1 r2 r3 p0 p1 p2 p3 p4 p5 p6 p7 p8 p9 az;go_wp2;go_ret;exact⟨R1.out,.inl ⟨os++[m],_,HL.out,rfl,R2.out,R3.out⟩⟩
def KI(w0:World)(D:dQ)(nm:ByteArray)(w:World)(e:Ending)(w':World):Prop:=∃a c,e= .returned (.agg #[.bool (dI D nm).1,.slice a (dI D nm).2.length c])∧fX w0 a c (dI D nm).2∧Below w.heap.size w w'
theorem fX.low(h:fX w0 a c d)(E:Below w0.heap.size w0 w):TxL w w0.heap.size a c d:=by
 refine⟨h.row.below E,h.room,h.cap,fun p A=>⟨h.spot p A,fun z=> ?_⟩⟩;obtain⟨b,I,e,G⟩:=h.row z;rw[A] at e;simp only[MK] at e;subst e;exact dH (G 0 z)
theorem ke(w0:World)(v:Value)(D:dQ)(nm:ByteArray)(w:World)(hv:eP D)(hd:km w0 v D)(K:Below w0.heap.size w0 w):Calls Tryz.prog 36 #[v,.string nm] w (KI w0 D nm w):=by
 obtain⟨a1,c1,a2,Q,a3,c3,a4,c4,rfl,r1,r2,r3,r4⟩:=hd;have ah:eL (D.nodes.length:Int) D.names=true:=hv.2.2.2.2.1;obtain⟨ak,an,ar,ag⟩:=gR ah;obtain⟨G,z,R,hz⟩:=nE w #[.slice a1 D.nodes.length c1,.slice a2 D.names.length Q,.slice a3 D.kept.length c3,.slice a4 D.pend.length c4,.int .i64 D.quota] #[.bool false,.slice none 0 0] 37 88;have U:=a8 ag;have V:=a8 r1;have Z:=a8 K;have J:=a8 ((r2.below K).below R);have N:=a8 (zq a2 Q D.names nm _ (by omega) ((r2.below K).below R));have O:=a8 R;clear r1 r2 r3 r4 ak an ag ah hv R hz K;go_enter Tryz.func36,Tryz.ntmps36;go_wp2_with fail;generalize (w.alloc (.cells #[.slice a1 D.nodes.length c1,.slice a2 D.names.length Q,.slice a3 D.kept.length c3,.slice a4 D.pend.length c4,.int .i64 D.quota] 37)).alloc (.cells #[.bool false,.slice none 0 0] 88)=wa at G z O J N⊢;refine N.out.mono ?_;rintro e A ⟨am,rfl⟩;have I:=a8 z;obtain⟨z0,z1⟩:=z.c2;have fz:=fun j=>z.fz j;rcases am with⟨i,nd,hi,E,aa,rfl⟩|⟨E,rfl⟩
 ·obtain⟨ae,af⟩:=U.out _ (iW E);obtain⟨k,hk⟩:=Int.eq_ofNat_of_zero_le ae;simp only at hk af;subst hk;have ad:k<D.nodes.length:=(by omega);have Y:=a8 (ow E rfl ad);obtain⟨b2,o2,e2,al⟩:=J.out (by omega);obtain⟨b1,o1,e1,ac⟩:=V.out (by omega);obtain⟨ai,ci,M,k1,aj⟩:=ac k ad;have L:=(Z.out.cell (p:=⟨b1,o1+k*2,none⟩) (dH M)).trans M;have k0:=(O.out.cell (p:=⟨b1,o1+k*2,none⟩) (dH L)).trans L;have g1:=aa b2 o2 e2;subst e1 e2;obtain⟨t0,t1⟩:=G.c2;have ap:(i:Int)<(D.names.length:Int):=(by omega);have aq:(k:Int)<(D.nodes.length:Int):=(by omega);have ao:¬(i:Int)<0:=(by omega);have ab:=a8 aj;generalize D.nodes[k].1=bl at k0 M L Y ab;generalize D.nodes[k].2=sf at k1;clear aa ac al aj U ae af N E V J G z k1 M L Z;go_wp2;go_region
  all_goals
   go_wp2;refine bodyPost_ret (pj (w.heap.size+1) _ _ _ rfl rfl (lW (by first|exact I.out|exact Blk.below I.out (MJ A.heap.size A).drew I.out.lt) (.bool true) (.slice ai bl.length ci))) rfl ?_;have hb:Below w.heap.size w _:=((O.out.drew).setCell (p:=⟨w.heap.size+1,0,none⟩) (No _) (.bool true)).setCell (p:=⟨w.heap.size+1,1,none⟩) (No _) (.slice ai bl.length ci);exact⟨ai,ci,by rw[Y.out],by rw[Y.out];exact ab.out,hb⟩
 ·have HN:=a8 (tf E);clear N V J U G z Z;go_wp2;refine bodyPost_ret (pj (w.heap.size+1) _ _ _ rfl rfl (lW I.out (.bool false) (.slice none 0 0))) rfl ?_;exact⟨none,0,by rw[HN.out];rfl,by rw[HN.out];exact fX.nil _,(O.out.setCell (p:=⟨w.heap.size+1,0,none⟩) (No _) _).setCell (p:=⟨w.heap.size+1,1,none⟩) (No _) _⟩
def mp(e:Ending):Prop:=∃t,e= .panicked [{v:= .iface 98 (.string t),recovered:=false}]
def TW(w:World)(gw:Nat)(ws:List ByteArray):Prop:=∃(gr off c:Nat) (cur:Array Value),Blk w gw #[.slice (some ⟨gr,off,none⟩) ws.length c] 287∧Blk w gr cur 9∧ws.length≤c∧c≤1000000000∧∀i (h:i<ws.length),cur[off+i]? =some (.string ws[i])
abbrev kC(g:Nat)(w w':World):Prop:=dV g w.heap.size w w'
theorem kY{h:Nat}{A B:Array Value}{u:TypeId}(E:Blk w g A t)(z:Blk w h B u)(G:t≠u):g≠h:=by
 rintro rfl;unfold Blk at E z;rw[E] at z;simp only[MK,Obj.cells.injEq] at z;exact G z.2.1
theorem TW.keep{ws:List ByteArray}(h:TW w A ws)(I:∀g z t,Blk w g z t→(t=9∨t=287)→w'.heap[g]? =w.heap[g]?):TW w' A ws:=by
 obtain⟨gr,J,c,z,E,G,K,L,M⟩:=h;exact⟨gr,J,c,z,(I A _ _ E (Or.inr rfl)).trans E,(I gr _ _ G (Or.inl rfl)).trans G,K,L,M⟩
theorem TW.below{ws:List ByteArray}(h:TW w z ws)(A:Below w.heap.size w w'):TW w' z ws:=h.keep (fun g G t E _=>A.block g E.lt)
theorem pb(z:Nat)(ws:List ByteArray)(w:World)(h:TW w z ws):Calls Tryz.prog 172 #[.pointer (some ⟨z,0,none⟩)] w fun e w'=>e= .returned (.bool (decide (0<ws.length)))∧w'=w:=by
 obtain⟨gr,E,c,K,A,I,L,M,J⟩:=h;have G:w.cell? ⟨z,0,none⟩=some (.slice (some ⟨gr,E,none⟩) ws.length c):=A.cell 0;generalize ws.length=n at G;clear A I J;go_enter Tryz.func172,Tryz.ntmps172;go_wp2;go_ret;exact⟨by simp,rfl⟩
def KU(gw:Nat)(ws:List ByteArray)(w:World)(e:Ending)(w':World):Prop:=(∃x r,ws=x::r∧e= .returned (.string x)∧TW w' gw r∧kC gw w w')∨(ws=[]∧mp e∧w'=w)
theorem mW(z:Nat)(ws:List ByteArray)(w:World)(h:TW w z ws):Calls Tryz.prog 141 #[.pointer (some ⟨z,0,none⟩)] w (KU z ws w):=by
 have HM:=a8 (pb z ws w h)
 match ws,h,HM with
 |[],h,HM=>
  clear h;go_enter Tryz.func141,Tryz.ntmps141;go_wp2_with fail;refine HM.out.mono ?_;rintro e w1 ⟨rfl,rfl⟩;go_wp2;exact⟨rfl,Or.inr ⟨rfl,⟨_,rfl⟩,rfl⟩⟩
 |x::r,h,HM=>
  obtain⟨gr,A,c,N,E,G,I,h5,J⟩:=h;have O:gr≠z:=kY G E (by decide);have U:w.cell? ⟨z,0,none⟩=some (.slice (some ⟨gr,A,none⟩) (x::r).length c):=E.cell 0;have fz:=fun j=>E.fz j;have k0:w.cell? ⟨gr,A,none⟩=some (.string x):=by
   rw[G.cell A];have:=J 0 (by simp);simpa using this
  have Y:(x::r).length=r.length+1:=rfl;rw[Y] at U;have H1:=a8 E;have R:=a8 (show TW (w.setCell ⟨z,0,none⟩ (.slice (some ⟨gr,A+1,none⟩) r.length (c-1))) z r from by
   refine⟨gr,A+1,c-1,N,?_,G.other O _,by simp at I;omega,by omega,fun i K=> ?_⟩
   ·have h:=E.set 0 (.slice (some ⟨gr,A+1,none⟩) r.length (c-1));simpa using h
   ·rw[show A+1+i=A+(i+1) by omega];have:=J (i+1) (by simpa using K);rw[this];rfl)
  have Q:=a8 (show kC z w (w.setCell ⟨z,0,none⟩ (.slice (some ⟨gr,A+1,none⟩) r.length (c-1))) from dV.set (dV.of_below (MJ _ _) (MH _)) _);have V:decide (0<(x::r).length)=true:=(by simp);rw[V] at HM;have aa:((r.length:Int)+1)≤(c:Int):=(by simp at I;omega);have Z:r.length+1≤c:=(by simpa using I);have M:=a8 (show c=1→TW (w.setCell ⟨z,0,none⟩ (.slice (some ⟨gr,A,none⟩) r.length 0)) z r from fun hc=>by
   have hr:r=[]:=Nc.1 (by simp at I;omega);subst hr;refine⟨gr,A,0,N,?_,G.other O _,MH _,by omega,fun i K=>by cases K⟩;have h:=E.set 0 (.slice (some ⟨gr,A,none⟩) 0 0);simpa using h)
  have L:=a8 (show kC z w (w.setCell ⟨z,0,none⟩ (.slice (some ⟨gr,A,none⟩) r.length 0)) from dV.set (dV.of_below (MJ _ _) (MH _)) _);clear E G J Y V I;generalize hn:r.length=n at U R Q M L aa Z;clear hn;go_enter Tryz.func141,Tryz.ntmps141;go_wp2_with fail;refine HM.out.mono ?_;rintro e w1 ⟨rfl,rfl⟩;go_wp2
  all_goals
   go_ret
   first
   |exact Or.inl ⟨x,r,rfl,rfl,R.out,Q.out⟩
   |exact Or.inl ⟨x,r,rfl,rfl,M.out (by omega),L.out⟩
def KM(gw lo hi:Nat)(ws:List ByteArray)(w:World)(e:Ending)(w':World):Prop:=kC gw w w'∧((∃x r n,ws=x::r∧dS x.data.toList lo hi=some n∧e= .returned (.int .u64 (n:Int))∧TW w' gw r)∨(mp e∧(match ws with|[]=>none|x::_=>dS x.data.toList lo hi)=none))
theorem dV.refl(gs B:Nat)(w:World):dV gs B w w:=⟨rfl,rfl,rfl,MH _,fun _ _ _=>rfl⟩
theorem kC.below{z A:World}(h:kC g w z)(E:Below z.heap.size z A):kC g w A:=dV.trans h (dV.of_below E h.size)
theorem jt(A lo z:Nat)(ws:List ByteArray)(w:World)(h:TW w A ws)(Q:∀w',kC A w w'→Env w')(K:∀y∈ws,y.size≤40000)(Z:z<18446744073709551616):
  Calls Tryz.prog 147 #[.pointer (some ⟨A,0,none⟩),.int .u64 (lo:Int),.int .u64 (z:Int)] w (KM A lo z ws w):=by
 have HW:=a8 (mW A ws w h);have HE:=a8 Q;have Y:=a8 K;clear h Q K;go_enter Tryz.func147,Tryz.ntmps147;go_wp2_with fail;refine HW.out.mono ?_;rintro e U (⟨x,r,rfl,rfl,R,E⟩|⟨rfl,hf,rfl⟩)
 ·have O:=a8 R;have M:=a8 E;have L:=a8 (jR x lo z U (HE.out U E) (by have:=Y.out x (by simp);omega) Z);clear R E;go_wp2_with fail;refine L.out.mono ?_;rintro e w2 ⟨n,ok,rfl,G,I⟩;have V:=a8 (O.out.below I);have J:=a8 (kC.below M.out I);have N:=a8 (show dS x.data.toList lo z=if ok=true then some n else none from by
   cases ok with
   |true=>rw[ew (show mf x.data.toList lo z n true from by
     rcases G with h|⟨h,_⟩
     ·exact Or.inl h
     ·cases h)];rfl
   |false=>rw[fQ (show mf x.data.toList lo z n false from by
     rcases G with⟨h,_⟩|⟨_,_,h⟩
     ·cases h
     ·exact Or.inr ⟨rfl,h⟩)];rfl)
  clear G I L O M;cases ok with
  |true=>
   go_wp2;go_ret;exact⟨J.out,Or.inl ⟨x,r,n,rfl,N.out,rfl,V.out⟩⟩
  |false=>
   go_wp2;exact⟨rfl,J.out,Or.inr ⟨⟨_,rfl⟩,N.out⟩⟩
 ·obtain⟨t,rfl⟩:=hf;go_wp2;exact⟨rfl,dV.refl _ _ _,Or.inr ⟨⟨t,rfl⟩,rfl⟩⟩
def FG(gw lo hi:Nat)(ws:List ByteArray)(w:World)(e:Ending)(w':World):Prop:=kC gw w w'∧((∃x r n,ws=x::r∧dS x.data.toList lo hi=some n∧e= .returned (.int .u32 (n:Int))∧TW w' gw r)∨(mp e∧(match ws with|[]=>none|x::_=>dS x.data.toList lo hi)=none))
theorem ka(A:Nat)(ws:List ByteArray)(w:World)(h:TW w A ws)(K:∀w',kC A w w'→Env w')(J:∀y∈ws,y.size≤40000):
  Calls Tryz.prog 142 #[.pointer (some ⟨A,0,none⟩)] w (FG A 1 4294967295 ws w):=by
 have C:=a8 (jt A 1 4294967295 ws w h K J (by omega));clear h K J;go_enter Tryz.func142,Tryz.ntmps142;go_wp2_with fail;refine C.out.mono ?_;rintro e R ⟨E,⟨x,r,n,rfl,z,rfl,L⟩|⟨N,z⟩⟩
 ·have G:=a8 E;have I:=a8 z;have M:=a8 L;have Q:=(ef z).2;have O:(n:Int)≤4294967295:=(by omega);clear E z L;go_wp2;go_ret;exact⟨G.out,Or.inl ⟨x,r,n,rfl,I.out,rfl,M.out⟩⟩
 ·obtain⟨t,rfl⟩:=N;have G:=a8 E;have I:=a8 z;clear E z;go_wp2;exact⟨rfl,G.out,Or.inr ⟨⟨t,rfl⟩,I.out⟩⟩
theorem uW(A:Nat)(ws:List ByteArray)(w:World)(h:TW w A ws)(K:∀w',kC A w w'→Env w')(J:∀y∈ws,y.size≤40000):
  Calls Tryz.prog 150 #[.pointer (some ⟨A,0,none⟩)] w (FG A 0 2147483647 ws w):=by
 have C:=a8 (jt A 0 2147483647 ws w h K J (by omega));clear h K J;go_enter Tryz.func150,Tryz.ntmps150;go_wp2_with fail;refine C.out.mono ?_;rintro e R ⟨E,⟨x,r,n,rfl,z,rfl,L⟩|⟨N,z⟩⟩
 ·have G:=a8 E;have I:=a8 z;have M:=a8 L;have Q:=(ef z).2;have O:(n:Int)≤2147483647:=(by omega);clear E z L;go_wp2;go_ret;exact⟨G.out,Or.inl ⟨x,r,n,rfl,I.out,rfl,M.out⟩⟩
 ·obtain⟨t,rfl⟩:=N;have G:=a8 E;have I:=a8 z;clear E z;go_wp2;exact⟨rfl,G.out,Or.inr ⟨⟨t,rfl⟩,I.out⟩⟩
def KW(ws:List ByteArray)(w:World)(e:Ending)(w':World):Prop:=w'=w∧((ws=[]∧e= .returned (.tuple #[]))∨(ws≠[]∧mp e))
theorem I3(A:Nat)(ws:List ByteArray)(w:World)(h:TW w A ws):Calls Tryz.prog 140 #[.pointer (some ⟨A,0,none⟩)] w (KW ws w):=by
 have z:=a8 (pb A ws w h);clear h;cases ws with
 |nil=>
  go_enter Tryz.func140,Tryz.ntmps140;go_wp2_with fail;refine z.out.mono ?_;rintro e G ⟨rfl,rfl⟩;go_wp2
  go_end0
  exact⟨rfl,Or.inl ⟨rfl,rfl⟩⟩
 |cons x r=>
  have E:decide (0<(x::r).length)=true:=(by simp);rw[E] at z;clear E;go_enter Tryz.func140,Tryz.ntmps140;go_wp2_with fail;refine z.out.mono ?_;rintro e G ⟨rfl,rfl⟩;go_wp2;exact⟨rfl,rfl,Or.inr ⟨by simp,⟨_,rfl⟩⟩⟩
theorem AX(a:Option Addr)(cap:Nat)(l:List Nat)(w:World)(Z:l.length≤1048575)(Y:dW w a l)(V:Env w):
  Calls Tryz.prog 139 #[.slice a l.length cap] w fun e w'=>∃K ws,e= .returned (.pointer (some ⟨K,0,none⟩))∧w.heap.size≤K∧TW w' K ws∧ws.map (·.data.toList)=gH l∧Below w.heap.size w w':=by
 have R:=fH w a cap l Y;have aa:(fC l).size≤1048575:=(by rw[iY];exact Z);have U:=a8 (show gH l=eR 32 (fC l).data.toList from rfl);obtain⟨m,hm⟩:=V.max;clear Y V Z;generalize fC l=s at R aa U;have E:=Tryz.strings_Split s ⟨#[32]⟩ m w (by omega) hm (by decide);have A:=vP 32 s.size s (MH _);have J:=Lib.splitB_all ⟨#[32]⟩ (by decide) 0 (Lib.countB s ⟨#[32]⟩) s rfl;generalize Lib.splitB ⟨#[32]⟩ 0 (Lib.countB s ⟨#[32]⟩) s=ws at E A J;rw[←J] at E;have af:ws.length≤1048577:=by
  have h1:=congrArg List.length A;rw[MI] at h1;have h2:=mO 32 s.data.toList;have h3:s.data.toList.length=s.size:=rfl;omega
 have Q:=nAl w (.cells (ws.map Value.string).toArray 9);have G:=a8 (dN w (ws.map Value.string).toArray 9);have ad:=a8 (A.trans U.out.symm);have M:=a8 Q;have L:(w.alloc (.cells (ws.map Value.string).toArray 9)).heap.size=w.heap.size+1:=(by simp);have N:=a8 L;clear A J Q L;have O:=a8 E;clear E;go_enter Tryz.func139,Tryz.ntmps139;go_wp2_with fail;refine O.out.mono ?_;rintro e z ⟨rfl,rfl⟩;clear O R;generalize w.alloc (.cells (ws.map Value.string).toArray 9)=z at G M N⊢;have I:=nAl z (.cells #[.slice (some ⟨w.heap.size,0,none⟩) ws.length ws.length] 287);have ae:=a8 (show TW (z.alloc (.cells #[.slice (some ⟨w.heap.size,0,none⟩) ws.length ws.length] 287)) z.heap.size ws from⟨w.heap.size,0,ws.length,_,dN z _ _,G.out.below I G.out.lt,MH _,by omega,fun i h=>by simp[h]⟩);have ab:=bTr M I;have ac:=a8 (show w.heap.size≤z.heap.size from by have:=N.out;omega);clear I;go_wp2;go_ret;exact⟨z.heap.size,ws,rfl,ac.out,ae.out,ad.out,ab.out⟩
def goS{σ:Type}(step:Bool→List (List UInt8)→σ→Option σ)(first:Bool):List (List Nat)→σ→Option σ
 |[],s=>some s
 |r::rs,s=>match step first (gH r) s with
  |none=>none
  |some s'=>goS step false rs s'
def ofS{σ:Type}(step:Bool→List (List UInt8)→σ→Option σ)(recs:List (List Nat))(s:σ):Option σ:=if recs=[] then none else goS step true recs s
theorem Gz:∀(first:Bool) (l:List (List Nat)) (s:IX),goS dU first l s=oT first l s
 |_,[],_=>rfl
 |first,r::rs,s=>by
  unfold goS oT;cases dU first (gH r) s with
  |none=>rfl
  |some s'=>exact Gz false rs s'
theorem GC:∀(first:Bool) (l:List (List Nat)) (s:UX),goS dY first l s=tJ first l s
 |_,[],_=>rfl
 |first,r::rs,s=>by
  unfold goS tJ;cases dY first (gH r) s with
  |none=>rfl
  |some s'=>exact GC false rs s'
theorem Gy:∀(first:Bool) (l:List (List Nat)) (s:Nat),goS eN first l s=qV first l s
 |_,[],_=>rfl
 |first,r::rs,s=>by
  unfold goS qV;cases eN first (gH r) s with
  |none=>rfl
  |some s'=>exact Gy false rs s'
theorem Ht(z:List (List Nat)):ofS dU z ⟨0,0,0,[]⟩=nI z:=by unfold ofS nI;rw[Gz]
theorem Hu(z:List (List Nat)):ofS dY z ⟨0,0,[]⟩=nK z:=by unfold ofS nK;rw[GC]
theorem Hs(z:List (List Nat)):ofS eN z 0=fN z:=by unfold ofS fN;rw[Gy]
theorem GB{σ:Type}{step:Bool→List (List UInt8)→σ→Option σ}{first:Bool}{z:List (List Nat)}{j:Nat}{c c':σ}(h:j<z.length)(e:step first (gH z[j]) c=some c'):goS step first (z.drop j) c=goS step false (z.drop (j+1)) c':=by
 rw[fw z j h,goS,e]
theorem K8{σ:Type}{step:Bool→List (List UInt8)→σ→Option σ}{first:Bool}{z:List (List Nat)}{j:Nat}{c:σ}(h:j<z.length)(e:step first (gH z[j]) c=none):goS step first (z.drop j) c=none:=by
 rw[fw z j h,goS,e]
structure gM(S:Nat→Prop)(B:Nat)(w w':World):Prop where
 os:w'.os=w.os
 tape:w'.tape=w.tape
 output:w'.output=w.output
 size:w.heap.size≤w'.heap.size
 block:∀k,k<B→¬S k→w'.heap[k]? =w.heap[k]?
theorem gM.ofX{z B:Nat}{w w':World}(h:dV z B w w'):gM (·=z) B w w':=⟨h.os,h.tape,h.output,h.size,fun k A E=>h.block k A E⟩
theorem gM.from{S:Nat→Prop}{w w0 w':World}{B:Nat}(h:gM S B w0 w')(z:Below w.heap.size w w0)(G:w.heap.size≤B):gM S w.heap.size w w':=⟨h.os.trans z.os,h.tape.trans z.tape,h.output.trans z.output,MN z.size h.size,fun k A E=>(h.block k (by omega) E).trans (z.block k A)⟩
theorem gM.out{S:Nat→Prop}{B lo:Nat}{w w':World}(h:gM S B w w')(E:w.heap.size≤B)(z:∀k,S k→k<lo):Out 0 lo w w':=⟨h.os,h.tape,h.output,h.size,fun k G I=>h.block k (by omega) (fun A=>by have:=z k A;omega)⟩
theorem gM.high{S:Nat→Prop}{B g j:Nat}{w w':World}(h:gM S B w w')(E:B≤g)(u:Value):gM S B w (w'.setCell ⟨g,j,none⟩ u):=
 ⟨h.os,h.tape,h.output,by simpa using h.size,fun k z A=>(heap_setCell_other w' ⟨g,j,none⟩ k u (by simp;omega)).trans (h.block k z A)⟩
theorem vH{w w':World}{z e k n:Nat}{v:Value}{cs:List Value}(h:w.ownsRow z e k v n cs)(J:∀g,z≤g→g<w.heap.size→w'.heap[g]? =w.heap[g]?):w'.ownsRow z e k v n cs:=by
 refine⟨h.1,?_⟩;rcases h.2 with K|⟨g,cap,I,L,A,E,G⟩
 ·exact .inl K
 ·exact .inr ⟨g,cap,I,L,A,(J g A (lt_of_block E)).trans E,G⟩
theorem EZ{lo A z:Nat}{w w':World}{v:Value}{J:List Value}{I:List (List Nat)}(h:eF w z v J I)(E:Out lo A w w')(Q:A≤z):eF w' z v J I:=by
 obtain⟨K,L,M⟩:=h;have G:∀g,z≤g→g<w.heap.size→w'.heap[g]? =w.heap[g]? :=fun g R N=>E.block g N (.inr (by omega));refine⟨vH K G,fun i A=> ?_,M⟩;obtain⟨x,O,E⟩:=L i A;exact⟨x,O,vH E G⟩
structure wi(σ:Type)(f:FuncId)(gm:Nat)(S:Nat→Prop)(step:Bool→List (List UInt8)→σ→Option σ)(Ok:Nat→σ→Prop)(w:World)(s0:σ)(Fin:World→σ→Prop)(Bad:World→Prop) where
 Inv:Nat→World→World→σ→Prop
 enter:∀(a b c:Value) (w:World),(callFunc f #[a,b,c]).run Tryz.prog w= .ok (.enter f #[a,b,c]) w
 start:∀w0,Below w.heap.size w w0→Inv w0.heap.size w0 w0 s0
 ok0:Ok 0 s0
 okS:∀{k:Nat} {first:Bool} {ws:List (List UInt8)} {s s':σ},step first ws s=some s'→ws.length≤40001→Ok k s→Ok (k+1) s'
 low:∀k,S k→k<w.heap.size
 env:∀w',gM S w.heap.size w w'→Env w'
 below:∀{B:Nat} {w0 wr wr':World} {s:σ},Inv B w0 wr s→Below wr.heap.size wr wr'→Inv B w0 wr' s
 frame:∀{B:Nat} {w0 wr:World} {s:σ},Inv B w0 wr s→gM S B w0 wr
 sz:∀{B:Nat} {w0 wr:World} {s:σ},Inv B w0 wr s→B≤wr.heap.size
 badI:∀{B:Nat} {w0 wr:World} {s:σ},Inv B w0 wr s→Bad wr
 badS:∀{X:World} {g j:Nat} (u:Value),Bad X→w.heap.size≤g→Bad (X.setCell ⟨g,j,none⟩ u)
 fin:∀{B:Nat} {w0 wr X:World} {s:σ},Inv B w0 wr s→Below w.heap.size w w0→B=w0.heap.size→Out w.heap.size B wr X→Fin X s
 call:∀(k B gw:Nat) (w0 wr:World) (s:σ) (ws:List ByteArray),Inv B w0 wr s→Ok k s→TW wr gw ws→B≤gw→(∀y∈ws,y.size≤40000)→ws.length≤40001→k≤40000→(∀w',gM S B w0 w'→Env w')→
  Calls Tryz.prog f #[.pointer (some ⟨gm,0,none⟩),.int .i64 (k:Int),.pointer (some ⟨gw,0,none⟩)] wr fun e w'=>
   (∃s' r,e= .returned (.tuple #[])∧Inv B w0 w' s'∧TW w' gw r∧step (decide (k=0)) (ws.map (·.data.toList)) s=if r=[] then some s' else none)∨(mp e∧step (decide (k=0)) (ws.map (·.data.toList)) s=none∧gM S B w0 w'∧Bad w')
def vZ{σ:Type}(S:Nat→Prop)(step:Bool→List (List UInt8)→σ→Option σ)(Ok:Nat→σ→Prop)(w:World)(s0:σ)(Fin:World→σ→Prop)(Bad:World→Prop)(nm:ByteArray)(a:Option Addr)(cap:Nat)(d:List Nat)(e:Ending)(w':World):Prop:=
 (∃s',ofS step (dP d).1 s0=some s'∧e= .returned (.tuple #[.agg #[.string nm,.slice a d.length cap,.int .i64 ((dP d).2:Int)],.nilIface])∧Fin w' s'∧(∃n,n≤40000∧Ok n s')∧gM S w.heap.size w w')∨
 (ofS step (dP d).1 s0=none∧∃t,e= .returned (.tuple #[.agg #[.string ⟨#[]⟩,.slice none 0 0,.int .i64 0],fA nm t])∧gM S w.heap.size w w'∧Bad w')
theorem ey{w w':World}{g:Nat}{A:Array Value}{t:TypeId}(h:Blk w g A t)(e:w'.heap[g]? =w.heap[g]?):Blk w' g A t:=e.trans h
theorem Out.setO{lo z g j:Nat}{w w':World}(h:Out lo z w w')(G:lo≤g)(I:g<z)(u:Value):Out lo z w (w'.setCell ⟨g,j,none⟩ u):=
 ⟨h.os,h.tape,h.output,by simpa using h.size,fun k A E=>(heap_setCell_other w' ⟨g,j,none⟩ k u (by simp;omega)).trans (h.block k A E)⟩
theorem Mg{W:World}{g:Nat}{z A E v0 v1 v2:Value}{t:TypeId}(h:Blk W g #[z,A,E] t):Blk (((W.setCell ⟨g,0,none⟩ v0).setCell ⟨g,1,none⟩ v1).setCell ⟨g,2,none⟩ v2) g #[v0,v1,v2] t:=by
 have:=(((h.set 0 v0).set 1 v1).set 2 v2)
 simpa using this
abbrev Id(W:World)(g:Nat)(x y z:Value):World:=(((W.setCell ⟨g+1,0,none⟩ x).setCell ⟨g+1,1,none⟩ y).setCell ⟨g+1,2,none⟩ z).setCell ⟨g+1+1,0,none⟩ .nilIface
theorem E4{W:World}{g:Nat}{x y z:Value}{t:TypeId}(h:Blk W (g+1+1) #[.nilIface] t):Blk (Id W g x y z) (g+1+1) #[.nilIface] t:=by
 have A:Blk (((W.setCell ⟨g+1,0,none⟩ x).setCell ⟨g+1,1,none⟩ y).setCell ⟨g+1,2,none⟩ z) (g+1+1) #[.nilIface] t:=((h.other (by omega) _).other (by omega) _).other (by omega) _;have:=A.set 0 .nilIface;simpa using this
theorem LP(w:World)(A B C:Array Value)(E G z:TypeId):
  Blk (((w.alloc (.cells A E)).alloc (.cells B G)).alloc (.cells C z)) w.heap.size A E∧Blk (((w.alloc (.cells A E)).alloc (.cells B G)).alloc (.cells C z)) (w.heap.size+1) B G∧Blk (((w.alloc (.cells A E)).alloc (.cells B G)).alloc (.cells C z)) (w.heap.size+1+1) C z∧Below w.heap.size w (((w.alloc (.cells A E)).alloc (.cells B G)).alloc (.cells C z))∧(((w.alloc (.cells A E)).alloc (.cells B G)).alloc (.cells C z)).heap.size=w.heap.size+3:=by
 obtain⟨I,J,K,N⟩:=nE w A B E G;generalize (w.alloc (.cells A E)).alloc (.cells B G)=W at I J K N;have M:=dN W C z;have L:=nAl W (.cells C z);have O:(W.alloc (.cells C z)).heap.size=W.heap.size+1:=World.size_alloc _ _;rw[N] at M;exact⟨I.below L I.lt,J.below L J.lt,M,K.trans (L.mono K.size),by omega⟩
theorem qE(tmps:Array Value)(z E:Nat)(X:World)(G I x2 e:Value)(J:tmps.getD 6 undef= .pointer (some ⟨z,0,none⟩))(K:tmps.getD 7 undef= .pointer (some ⟨E,0,none⟩))(A:Blk X z #[G,I,x2] 200)(L:Blk X E #[e] 64):
  (results Tryz.f110 tmps).run Tryz.prog X= .ok (.tuple #[.agg #[G,I,x2],e]) X:=by
 obtain⟨M,N,O⟩:=A.c3;have Q:X.cell? ⟨E,0,none⟩=some e:=L.cell 0;rw[Array.getD_eq_getD_getElem?] at J K;simp[results,Tryz.results110,go_sem,M,N,O,Q,J,K]
section
variable {σ:Type} {f:FuncId} {gm:Nat} {S:Nat→Prop} {step:Bool→List (List UInt8)→σ→Option σ} {Ok:Nat→σ→Prop} {w:World} {s0:σ} {Fin:World→σ→Prop} {Bad:World→Prop}
theorem sD{nm:ByteArray}{a:Option Addr}{cap:Nat}{d:List Nat}{X:World}{tmps:Array Value}(J:tmps.getD 6 undef= .pointer (some ⟨w.heap.size+1,0,none⟩))(K:tmps.getD 7 undef= .pointer (some ⟨w.heap.size+1+1,0,none⟩))(G:Blk X w.heap.size #[.string nm] 9)(I:Blk X (w.heap.size+1) #[.string ⟨#[]⟩,.slice none 0 0,.int .i64 0] 200)(z:Blk X (w.heap.size+1+1) #[.nilIface] 64)(E:gM S w.heap.size w X)(L:ofS step (dP d).1 s0=none)(t:ByteArray)(A:Bad (X.setCell ⟨w.heap.size+1+1,0,none⟩ (fA nm t))):
  bodyPostD Tryz.prog Tryz.f110 (vZ S step Ok w s0 Fin Bad nm a cap d) (.panic [{v:= .iface 98 (.string t),recovered:=false}]) {tmps:=tmps,defers:=[{target:= .fn (.func 137) #[.pointer (some ⟨w.heap.size,0,none⟩),.pointer (some ⟨w.heap.size+1+1,0,none⟩)],args:= #[]}]} X:=by
 refine leaves_cons (f:=137) (args:= #[.pointer (some ⟨w.heap.size,0,none⟩),.pointer (some ⟨w.heap.size+1+1,0,none⟩)]) (by simp) (by simp[go_sem]) ?_;refine(Bd ⟨w.heap.size,0,none⟩ ⟨w.heap.size+1+1,0,none⟩ .nilIface nm t X (G.cell 0) (z.cell 0) (z.fz 0)).mono ?_;rintro e N M ⟨rfl,rfl,rfl⟩;refine⟨_,qE tmps (w.heap.size+1) (w.heap.size+1+1) _ _ _ _ (fA nm t) J K (I.other (by omega) _) ?_,Or.inr ⟨L,t,rfl,E.high (by omega) _,A⟩⟩;have:=z.set 0 (fA nm t);simpa using this
theorem Li{nm:ByteArray}{a:Option Addr}{cap:Nat}{d:List Nat}{X:World}{tmps:Array Value}{s':σ}(G:tmps.getD 6 undef= .pointer (some ⟨w.heap.size+1,0,none⟩))(I:tmps.getD 7 undef= .pointer (some ⟨w.heap.size+1+1,0,none⟩))(A:Blk X (w.heap.size+1) #[.string nm,.slice a d.length cap,.int .i64 ((dP d).2:Int)] 200)(E:Blk X (w.heap.size+1+1) #[.nilIface] 64)(L:ofS step (dP d).1 s0=some s')(J:Fin X s')(K:∃n,n≤40000∧Ok n s')(z:gM S w.heap.size w X):
  Leaves Tryz.prog Tryz.f110 tmps (vZ S step Ok w s0 Fin Bad nm a cap d) [{target:= .fn (.func 137) #[.pointer (some ⟨w.heap.size,0,none⟩),.pointer (some ⟨w.heap.size+1+1,0,none⟩)],args:= #[]}] .returning X:=by
 refine leaves_cons (f:=137) (args:= #[.pointer (some ⟨w.heap.size,0,none⟩),.pointer (some ⟨w.heap.size+1+1,0,none⟩)]) (by simp) (by simp[go_sem]) ?_;refine(Be ⟨w.heap.size,0,none⟩ ⟨w.heap.size+1+1,0,none⟩ X).mono ?_;rintro e N M ⟨rfl,rfl,rfl⟩;exact⟨_,qE tmps (w.heap.size+1) (w.heap.size+1+1) _ _ _ _ .nilIface G I A E,Or.inl ⟨s',L,rfl,J,K,z⟩⟩
end
theorem mL{σ:Type}{f:FuncId}{gm:Nat}{S:Nat→Prop}{step:Bool→List (List UInt8)→σ→Option σ}{Ok:Nat→σ→Prop}{w:World}{M:σ}{Fin:World→σ→Prop}{am:World→Prop}(R:wi σ f gm S step Ok w M Fin am)(nm:ByteArray)(a:Option Addr)(cap:Nat)(d:List Nat)(ht:fX w a cap d):
  Calls Tryz.prog 110 #[.string nm,.slice a d.length cap,.func (.func f) #[.pointer (some ⟨gm,0,none⟩)] #[]] w (vZ S step Ok w M Fin am nm a cap d):=by
 have aX:∀(fn:Fn) (first cap:Array Value) (w:World),(Instr.makeFunc fn first cap).run Tryz.prog w= .ok (.func fn first cap) w:=fun _ _ _ _=>rfl;obtain⟨L1,L2,L3,hA,hz⟩:=LP w #[.string nm] #[.string ⟨#[]⟩,.slice none 0 0,.int .i64 0] #[.nilIface] 9 200 64;have CU:=a8 (GO (ht.below hA));have HA:=a8 hA;have hent:=R.enter;have HZ:=a8 hz;have H1:=a8 L1;have H2:=a8 L2;have H3:=a8 L3;clear ht hA hz L1 L2 L3
 go_enter_defers Tryz.func110,Tryz.ntmps110
 go_wp2_with fail;generalize ((w.alloc (.cells #[.string nm] 9)).alloc (.cells #[.string ⟨#[]⟩,.slice none 0 0,.int .i64 0] 200)).alloc (.cells #[.nilIface] 64)=w3 at H1 H2 H3 HA CU HZ⊢;refine CU.out.mono ?_;rintro e K ⟨a1,c1,vs,rfl,ho,ab⟩;have N:=a8 (show∃z E,dP d=(z,E) from⟨_,_,rfl⟩);obtain⟨z,E,ad⟩:=N.out;have HL:=a8 (fun i hi=>xF (d:=d) i hi);have hn:(dP d).1.length≤40000:=(by have:=kj d;omega);have N:=a8 ad;rw[ad] at ho hn HL;simp only[ad];simp only at ho hn HL;have ak:=nAl K (.cells #[.slice a1 z.length c1,.int .i64 (E:Int)] 116);have H4:=a8 (dN K #[.slice a1 z.length c1,.int .i64 (E:Int)] 116);have J:=ab.trans (ak.mono ab.size);have A:=bTr HA J;have O:=a8 (H1.out.below J H1.out.lt);have Q:=a8 (H2.out.below J H2.out.lt);have U:=a8 (H3.out.below J H3.out.lt);have HO:=a8 (ho.below ak (MH _));have aN:=a8 (show w3.heap.size≤K.heap.size from ab.size);clear ad ho ab J ak H1 H2 H3 HA CU;go_upto_region 3 with fail;generalize K.alloc (.cells #[.slice a1 z.length c1,.int .i64 (E:Int)] 116)=W at H4 A O Q U HO⊢;have l0:W.cell? ⟨K.heap.size,0,none⟩=some (.slice a1 z.length c1):=H4.out.cell 0;by_cases h0:z=[]
 ·subst h0;simp only[List.length_nil] at l0;have aM:=a8 (show ofS step (dP d).1 M=none by rw[N.out];rfl);have HF:=a8 (show gM S w.heap.size w W from⟨A.out.os,A.out.tape,A.out.output,A.out.size,fun k hk _=>A.out.block k hk⟩);go_wp2;exact sD rfl rfl O.out Q.out U.out HF.out aM.out _ (R.badS _ (R.badI (R.start W A.out)) (by omega))
 ·have hp:0<z.length:=List.length_pos_iff.2 h0;have aZ:((z.length:Int)==0)=false:=(by simp;omega);have ao:=a8 h0;have aI:=a8 (R.start W A.out);have aJ:=a8 R.ok0;have G:=a8 (show w.heap.size+3≤K.heap.size∧K.heap.size<W.heap.size from⟨by have:=HZ.out;have:=aN.out;omega,lt_of_block H4.out⟩);clear h0;go_wp2;clear l0;go_loopw [9,10,11,23] (fun _ _ _ i wr=>∃(j:Nat) (s:σ),j≤z.length∧i= .int .i64 (j:Int)∧Hid (R.Inv W.heap.size W wr s)∧Hid (Ok j s)∧Hid (goS step (decide (j=0)) (z.drop j) s=goS step true z M)) (fun _ _ _ i _=>z.length-(intOf i).toNat)
  case atStart=>exact⟨0,M,MQ _,rfl,aI,aJ,a8 rfl⟩
  case round=>
   obtain⟨j,s,hj,rfl,HI,HK,af⟩:=hrel;have L:=a8 (R.frame HI.out);by_cases ac:j<z.length
   ·have aW:(j:Int)<(z.length:Int):=(by omega);obtain⟨b0,o0,e0,aA⟩:=(kp.rows ⟨vs,EZ HO.out (L.out.out (MH _) (lo:=w3.heap.size) (fun k hk=>by have:=R.low k hk;have:=HZ.out;omega)) (MH _)⟩) (by omega)
    subst e0;obtain⟨ai,ci,k0,al⟩:=aA j ac;have aV:=HL.out j ac;have CW:=a8 (AX ai ci z[j] wr (by omega) al (R.env wr (L.out.from A.out (by have:=G.out;omega))));have au:=a8 (fun first c'=>GB (step:=step) (first:=first) (c:=s) (c':=c') ac);have aq:=a8 (fun first=>K8 (step:=step) (first:=first) (c:=s) ac);generalize z[j]=r at k0 CW au aq aV;clear aA al;go_wp2_with fail;refine CW.out.mono ?_;rintro e w2 ⟨gw,ws,rfl,aU,aC,ae,J⟩;have aw:=a8 (show∀y∈ws,y.size≤40000 from fun y hy=>by
     have h1:=iz (b:=32) (t:=(fC r).data.toList) (w:=y.data.toList) (by rw[show eR 32 (fC r).data.toList=gH r from rfl,←ae];exact List.mem_map_of_mem hy);have h2:(fC r).data.toList.length=r.length:=iY r;have h3:y.data.toList.length=y.size:=rfl;omega)
    have av:=a8 (show(gH r).length≤40001 from by
     have h1:=mO 32 (fC r).data.toList;have h2:(fC r).data.toList.length=r.length:=iY r;have h3:(gH r).length≤(fC r).data.toList.length+1:=h1;omega)
    have CF:=a8 (R.call j W.heap.size gw W w2 s ws (R.below HI.out J) HK.out aC (by have:=R.sz HI.out;omega) aw.out (by have h:=congrArg List.length ae;rw[MI] at h;rw[h];exact av.out) (by omega) (fun w' h=>R.env w' (h.from A.out (by have:=G.out;omega))));rw[ae] at CF;have an:=a8 (fun(X:World) (hX:gM S W.heap.size W X)=>(⟨ey O.out (hX.block _ (lt_of_block O.out) (fun h=>by have:=R.low _ h;omega)),ey Q.out (hX.block _ (lt_of_block Q.out) (fun h=>by have:=R.low _ h;omega)),ey U.out (hX.block _ (lt_of_block U.out) (fun h=>by have:=R.low _ h;omega)),hX.from A.out (by have:=G.out;omega)⟩:Blk X w.heap.size #[.string nm] 9∧Blk X (w.heap.size+1) #[.string ⟨#[]⟩,.slice none 0 0,.int .i64 0] 200∧Blk X (w.heap.size+1+1) #[.nilIface] 64∧gM S w.heap.size w X));have ap:=a8 (fun(h:step (decide (j=0)) (gH r) s=none)=>show ofS step (dP d).1 M=none from by
     unfold ofS;rw[N.out];simp only;rw[if_neg ao.out,←af.out];exact aq.out _ h)
    clear aU aC ae J CW k0 aw;go_wp2_with fail;refine CF.out.mono ?_;rintro e w4 (⟨s',rr,rfl,ax,ay,Z⟩|⟨⟨t,rfl⟩,Z,aD,az⟩)
    ·have CE:=a8 (I3 gw rr w4 ay);have ag:=a8 ax;have aa:=a8 Z;clear ax ay Z CF;go_wp2_with fail;refine CE.out.mono ?_;rintro e w5 ⟨rfl,⟨Y,rfl⟩|⟨Y,t,rfl⟩⟩
     ·have ar:=a8 (show step (decide (j=0)) (gH r) s=some s' by rw[aa.out,if_pos Y]);have aF:=a8 ((au.out _ _ ar.out).symm.trans af.out);have aK:=a8 (R.okS ar.out av.out HK.out);clear Y CE aa;go_wp2;go_roundw
      case rel=>exact⟨j+1,s',by omega,by go_num,ag,aK,a8 aF.out⟩
      case measure=>simp[intOf];omega
     ·have ah:=a8 (ap.out (by rw[aa.out,if_neg Y]));have I:=a8 (an.out _ (R.frame ag.out));clear Y CE aa;go_wp2;exact sD rfl rfl I.out.1 I.out.2.1 I.out.2.2.1 I.out.2.2.2 ah.out _ (R.badS _ (R.badI ag.out) (by omega))
    ·have ah:=a8 (ap.out Z);have I:=a8 (an.out _ aD);have aG:=a8 az;clear Z aD CF az;go_wp2;exact sD rfl rfl I.out.1 I.out.2.1 I.out.2.2.1 I.out.2.2.2 ah.out _ (R.badS _ aG.out (by omega))
   ·have aB:j=z.length:=(by omega);have aY:¬((j:Int)<(z.length:Int)):=(by omega);have aE:=a8 (show ofS step (dP d).1 M=some s from by
     unfold ofS;rw[N.out];simp only;rw[if_neg ao.out,←af.out,aB,Nx];rfl)
    have aS:=a8 (ey O.out (L.out.block _ (lt_of_block O.out) (fun h=>by have:=R.low _ h;omega)));have V:=a8 (ey Q.out (L.out.block _ (lt_of_block Q.out) (fun h=>by have:=R.low _ h;omega)));have aj:=a8 (ey U.out (L.out.block _ (lt_of_block U.out) (fun h=>by have:=R.low _ h;omega)));have aT:=a8 (ey H4.out (L.out.block _ (lt_of_block H4.out) (fun h=>by have:=R.low _ h;have:=G.out;omega)));have n0:wr.cell? ⟨w.heap.size,0,none⟩=some (.string nm):=aS.out.cell 0;obtain⟨q0,q1,q2⟩:=V.out.c3;have fq:=fun j=>V.out.fz j;have z0:wr.cell? ⟨w.heap.size+1+1,0,none⟩=some .nilIface:=aj.out.cell 0;have fz:=fun j=>aj.out.fz j;obtain⟨-,g1⟩:=aT.out.c2;have aH:=a8 (show(dP d).2=E by rw[N.out]);have aL:=a8 (show∃n,n≤40000∧Ok n s from⟨j,by omega,HK.out⟩);have aR:=a8 (((((Out.refl w.heap.size W.heap.size wr).setO (j:=0) (g:=w.heap.size+1) (by omega) (by have:=G.out;omega) (.string nm)).setO (j:=1) (g:=w.heap.size+1) (by omega) (by have:=G.out;omega) (.slice a d.length cap)).setO (j:=2) (g:=w.heap.size+1) (by omega) (by have:=G.out;omega) (.int .i64 (E:Int))).setO (j:=0) (g:=w.heap.size+1+1) (by omega) (by have:=G.out;omega) .nilIface);have aO:=a8 (show Blk (Id wr w.heap.size (.string nm) (.slice a d.length cap) (.int .i64 (E:Int))) (w.heap.size+1) #[.string nm,.slice a d.length cap,.int .i64 (E:Int)] 200 from(Mg V.out).other (by omega) _);have aP:=a8 (show Blk (Id wr w.heap.size (.string nm) (.slice a d.length cap) (.int .i64 (E:Int))) (w.heap.size+1+1) #[.nilIface] 64 from E4 aj.out);have aQ:=a8 (show gM S w.heap.size w _ from(((((L.out.from A.out (by have:=G.out;omega)).high (j:=0) (g:=w.heap.size+1) (by omega) (.string nm)).high (j:=1) (g:=w.heap.size+1) (by omega) (.slice a d.length cap)).high (j:=2) (g:=w.heap.size+1) (by omega) (.int .i64 (E:Int))).high (j:=0) (g:=w.heap.size+1+1) (by omega) .nilIface));clear aB;go_wp2;refine Li (s':=s) rfl rfl ?_ ?_ aE.out (R.fin HI.out A.out rfl aR.out) aL.out aQ.out
    ·rw[aH.out];exact aO.out
    ·exact aP.out
end Go.Proofs.YtpdbolihakojcaaGreatDoor
