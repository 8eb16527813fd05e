package vm_test

import (
	"cmp"
	"fmt"
	"slices"
	"testing"

	"exitwave/api"
	"exitwave/check"
	"exitwave/eval"
	"exitwave/exits"
	"exitwave/vm"
)

// member is a process of a model: what can be seen of it, as it is told, and what cannot.
type member struct {
	api.Proc
	machine *eval.Machine
	looked  int // messages
	ids     int // of SUnlinks that it sent
}

// model says chapter 18 once more, over plain lists: all signals under way stand in one row, halves and messages in what is told of a process. Of the layers below it has machines, and what exit signals do.
type model struct {
	tree   api.Tree
	config api.Config
	procs  []*member
	row    []api.Signal
	refs   int64
	out    []api.Term
}

func newModel(t *testing.T, source string, c api.Config) *model {
	t.Helper()
	tree, err := check.Source(source)
	if err != nil {
		t.Fatalf("%s: %v", source, err)
	}
	o := &model{tree: tree, config: c}
	m, e := eval.Start(tree, "main", nil, 1)
	if e != api.OK {
		t.Fatal(e)
	}
	o.add(m)
	return o
}

func (o *model) add(m *eval.Machine) *member {
	p := &member{Proc: api.Proc{Pid: len(o.procs) + 1, State: api.PReady}, machine: m}
	o.procs = append(o.procs, p)
	return p
}

// at answers nil for one that never was.
func (o *model) at(pid int) *member {
	if pid < 1 || pid > len(o.procs) {
		return nil
	}
	return o.procs[pid-1]
}

func (p *member) alive() bool {
	return p != nil && (p.State == api.PReady || p.State == api.PWaiting)
}

func (o *model) state() api.State {
	s := api.State{Out: o.out}
	for _, p := range o.procs {
		s.Procs = append(s.Procs, p.Proc)
	}
	row := slices.Clone(o.row)
	slices.SortStableFunc(row, func(a, b api.Signal) int {
		return cmp.Or(cmp.Compare(a.From, b.From), cmp.Compare(a.To, b.To))
	})
	for i, x := range row {
		if i == 0 || row[i-1].From != x.From || row[i-1].To != x.To {
			s.Lanes = append(s.Lanes, api.Lane{From: x.From, To: x.To})
		}
		last := &s.Lanes[len(s.Lanes)-1]
		last.Signals = append(last.Signals, x)
	}
	return s
}

func (o *model) do(x api.Step) {
	p := o.at(x.A)
	switch {
	case x.Kind == api.XRun && p != nil && x.N >= 0 && x.N <= 65536:
		o.run(p, x.N)
	case x.Kind == api.XKill && p.alive():
		o.end(p, atom("killed"))
	case x.Kind == api.XDeliver:
		i := slices.IndexFunc(o.row, func(s api.Signal) bool { return s.From == x.A && s.To == x.B })
		if i >= 0 {
			s := o.row[i]
			o.row = slices.Delete(o.row, i, i+1)
			o.take(s)
		}
	}
}

func (o *model) run(p *member, fuel int) {
	for p.State == api.PReady {
		var v api.Event
		v, fuel = p.machine.Run(fuel)
		if v.Kind == api.VSpent {
			return
		}
		o.event(p, v)
	}
	for p.State == api.PExiting {
		s, sends := o.next(p)
		if sends && fuel == 0 {
			return
		}
		if sends {
			fuel--
			o.row = append(o.row, s)
		}
		o.drop(p)
	}
}

func (o *model) event(p *member, v api.Event) {
	switch v.Kind {
	case api.VDone:
		o.end(p, atom("normal"))
	case api.VRaise:
		x := v.Term
		if v.Class == api.CThrow {
			x = tuple(atom("nocatch"), x)
		}
		o.end(p, x)
	case api.VAsk:
		if x, word := o.ask(p, v.S, v.L); word != "" {
			p.machine.Fail(api.CError, atom(word))
		} else {
			p.machine.Give(x)
		}
	case api.VWait:
		for ; p.looked < len(p.Inbox); p.looked++ {
			if is, _ := p.machine.Offer(p.Inbox[p.looked]); is {
				p.Inbox = slices.Delete(p.Inbox, p.looked, p.looked+1)
				p.looked = 0
				return
			}
		}
		if v.Zero {
			p.looked = 0
			p.machine.After()
			return
		}
		p.State = api.PWaiting
	}
}

func (o *model) end(p *member, reason api.Term) {
	p.Proc = api.Proc{Pid: p.Pid, State: api.PExiting, Reason: reason, Links: p.Links, Origins: p.Origins, Targets: p.Targets}
}

// next tells what the next half sends; drop lets it go, or ends the process, if there is none.
func (o *model) next(p *member) (api.Signal, bool) {
	switch {
	case len(p.Links) > 0:
		return api.Signal{From: p.Pid, To: p.Links[0].Pid, Kind: api.SExit, Link: true, Term: p.Reason}, p.Links[0].State == api.Linked
	case len(p.Targets) > 0:
		return api.Signal{From: p.Pid, To: p.Targets[0].Pid, Kind: api.SDown, Ref: p.Targets[0].Ref, Term: p.Reason}, true
	case len(p.Origins) > 0:
		return api.Signal{From: p.Pid, To: p.Origins[0].Pid, Kind: api.SDemonitor, Ref: p.Origins[0].Ref}, p.Origins[0].Pid != 0
	}
	return api.Signal{}, false
}

func (o *model) drop(p *member) {
	switch {
	case len(p.Links) > 0:
		p.Links = p.Links[1:]
	case len(p.Targets) > 0:
		p.Targets = p.Targets[1:]
	case len(p.Origins) > 0:
		p.Origins = p.Origins[1:]
	default:
		p.State = api.PEnded
	}
}

// half tells the place of a half-link, and its state; 0, if there is none.
func (p *member) half(pid int) (place, state int) {
	for i, h := range p.Links {
		if h.Pid == pid {
			return i, h.State
		}
	}
	return -1, 0
}

func (p *member) unlink(pid int) {
	p.Links = slices.DeleteFunc(p.Links, func(h api.Half) bool { return h.Pid == pid })
}

func (p *member) setHalf(h api.Half) {
	p.unlink(h.Pid)
	p.Links = append(p.Links, h)
	slices.SortFunc(p.Links, func(a, b api.Half) int { return a.Pid - b.Pid })
}

func (o *model) take(s api.Signal) {
	p := o.at(s.To)
	if !p.alive() {
		o.dead(s)
		return
	}
	place, state := p.half(s.From)
	switch s.Kind {
	case api.SMessage:
		o.put(p, s.Term)
	case api.SLink:
		if state == 0 {
			p.setHalf(api.Half{Pid: s.From, State: api.Linked})
		}
	case api.SUnlink:
		if state == api.Linked {
			p.unlink(s.From)
		}
		o.row = append(o.row, api.Signal{From: s.To, To: s.From, Kind: api.SUnlinkAck, Id: s.Id})
	case api.SUnlinkAck:
		if state == api.Unlinking && p.Links[place].Id == s.Id {
			p.unlink(s.From)
		}
	case api.SExit:
		if s.Link && state != api.Linked {
			return
		}
		if s.Link {
			p.unlink(s.From)
		}
		x, _ := exits.Act(s, p.Trap)
		o.undergo(p, x)
	case api.SMonitor:
		if !slices.ContainsFunc(p.Targets, func(m api.Mon) bool { return m.Ref == s.Ref }) {
			p.Targets = append(p.Targets, api.Mon{Ref: s.Ref, Pid: s.From})
			slices.SortFunc(p.Targets, func(a, b api.Mon) int { return a.Ref - b.Ref })
		}
	case api.SDemonitor:
		p.Targets = slices.DeleteFunc(p.Targets, func(m api.Mon) bool { return m.Ref == s.Ref })
	case api.SDown:
		if m, is := p.unwatch(s.Ref); is {
			x, _ := exits.Down(s, m)
			o.undergo(p, x)
		}
	}
}

func (p *member) unwatch(ref int) (api.Mon, bool) {
	i := slices.IndexFunc(p.Origins, func(m api.Mon) bool { return m.Ref == ref })
	if i < 0 {
		return api.Mon{}, false
	}
	m := p.Origins[i]
	p.Origins = slices.Delete(slices.Clone(p.Origins), i, i+1)
	return m, true
}

func (o *model) dead(s api.Signal) {
	answer := api.Signal{From: s.To, To: s.From}
	switch s.Kind {
	case api.SLink:
		answer.Kind, answer.Link, answer.Term = api.SExit, true, atom("noproc")
	case api.SUnlink:
		answer.Kind, answer.Id = api.SUnlinkAck, s.Id
	case api.SMonitor:
		answer.Kind, answer.Ref, answer.Term = api.SDown, s.Ref, atom("noproc")
	default:
		return
	}
	o.row = append(o.row, answer)
}

func (o *model) undergo(p *member, x exits.Outcome) {
	switch x.Kind {
	case exits.Message:
		o.put(p, x.Term)
	case exits.Ends:
		o.end(p, x.Term)
	}
}

func (o *model) put(p *member, x api.Term) {
	words := 0
	for _, y := range append(slices.Clone(p.Inbox), x) {
		words += 2 + wordsOf(y)
	}
	if words > o.config.Words {
		o.end(p, atom("heap_limit"))
		return
	}
	p.Inbox = append(p.Inbox, x)
	p.State = api.PReady
}

// wordsOf says W3 once more.
func wordsOf(x api.Term) int {
	n := map[int]int{api.KFloat: 2, api.KRef: 2, api.KTuple: 1 + len(x.L), api.KList: 2 * len(x.L), api.KFun: 2 + len(x.L)}[x.Kind]
	for _, y := range x.L {
		n += wordsOf(y)
	}
	return n
}

// owner tells whose a name is, 0 if it is none's.
func (o *model) owner(name string) int {
	for _, p := range o.procs {
		if slices.Contains(p.Names, name) {
			return p.Pid
		}
	}
	return 0
}

func yes(is bool) api.Term { return atom(fmt.Sprint(is)) }

// pidIn answers 0 for what is no pid.
func pidIn(x api.Term) int {
	if x.Kind == api.KPid && x.N >= 1 && x.N <= 1<<20 {
		return int(x.N)
	}
	return 0
}

// ask tells a term, or the word of an error.
func (o *model) ask(p *member, name string, l []api.Term) (api.Term, string) {
	full := len(o.row) >= 1<<16
	send := func(to, kind int) *api.Signal {
		o.row = append(o.row, api.Signal{From: p.Pid, To: to, Kind: kind})
		return &o.row[len(o.row)-1]
	}
	to := 0
	if len(l) > 0 {
		to = pidIn(l[0])
	}
	switch fmt.Sprint(name, "/", len(l)) {
	case "self/0":
		return pid(int64(p.Pid)), ""
	case "make_ref/0":
		if o.refs == int64(o.config.Refs) {
			return api.Term{}, "system_limit"
		}
		o.refs++
		return ref(o.refs), ""
	case "spawn/1", "spawn_link/1", "spawn_monitor/1":
		return o.spawn(p, name, l[0])
	case "send/2":
		if l[0].Kind == api.KAtom {
			to = o.owner(l[0].S)
		}
		if to == 0 {
			return api.Term{}, "badarg"
		} else if full {
			return api.Term{}, "system_limit"
		}
		send(to, api.SMessage).Term = l[1]
		return l[1], ""
	case "exit/2":
		if to == 0 {
			return api.Term{}, "badarg"
		} else if full {
			return api.Term{}, "system_limit"
		}
		send(to, api.SExit).Term = l[1]
		return yes(true), ""
	case "link/1":
		_, state := p.half(to)
		if to == 0 {
			return api.Term{}, "badarg"
		} else if to == p.Pid || state == api.Linked {
			return yes(true), ""
		} else if full {
			return api.Term{}, "system_limit"
		}
		p.setHalf(api.Half{Pid: to, State: api.Linked})
		send(to, api.SLink)
		return yes(true), ""
	case "unlink/1":
		_, state := p.half(to)
		if to == 0 {
			return api.Term{}, "badarg"
		} else if state != api.Linked {
			return yes(true), ""
		} else if full {
			return api.Term{}, "system_limit"
		}
		p.ids++
		p.setHalf(api.Half{Pid: to, State: api.Unlinking, Id: p.ids})
		send(to, api.SUnlink).Id = p.ids
		return yes(true), ""
	case "monitor/2":
		return o.monitor(p, l, full)
	case "demonitor/1":
		return o.demonitor(p, l[0], list(), full)
	case "demonitor/2":
		return o.demonitor(p, l[0], l[1], full)
	case "process_flag/2":
		if text(l[0]) != "trap_exit" || text(l[1]) != "true" && text(l[1]) != "false" {
			return api.Term{}, "badarg"
		}
		was := p.Trap
		p.Trap = text(l[1]) == "true"
		return yes(was), ""
	case "register/2":
		q := o.at(pidIn(l[1]))
		if l[0].Kind != api.KAtom || l[0].S == "" || l[0].S == "undefined" || o.owner(l[0].S) != 0 || !q.alive() || len(q.Names) > 0 {
			return api.Term{}, "badarg"
		}
		q.Names = []string{l[0].S}
		return yes(true), ""
	case "unregister/1":
		if l[0].Kind != api.KAtom || o.owner(l[0].S) == 0 {
			return api.Term{}, "badarg"
		}
		o.at(o.owner(l[0].S)).Names = nil
		return yes(true), ""
	case "whereis/1":
		if l[0].Kind != api.KAtom {
			return api.Term{}, "badarg"
		} else if o.owner(l[0].S) == 0 {
			return atom("undefined"), ""
		}
		return pid(int64(o.owner(l[0].S))), ""
	case "is_process_alive/1":
		if to == 0 {
			return api.Term{}, "badarg"
		}
		return yes(o.at(to).alive()), ""
	case "out/1":
		if len(o.out) == 1<<16 {
			return api.Term{}, "system_limit"
		}
		o.out = append(o.out, l[0])
		return yes(true), ""
	}
	panic("nobody asks " + name)
}

func (o *model) spawn(p *member, name string, fun api.Term) (api.Term, string) {
	watches := name == "spawn_monitor"
	if eval.Arity(o.tree, fun) != 0 {
		return api.Term{}, "badarg"
	}
	if len(o.procs) == o.config.Procs || watches && o.refs == int64(o.config.Refs) {
		return api.Term{}, "system_limit"
	}
	m, _ := eval.New(o.tree, fun, nil, len(o.procs)+1)
	q := o.add(m)
	told := pid(int64(q.Pid))
	switch name {
	case "spawn_link":
		p.setHalf(api.Half{Pid: q.Pid, State: api.Linked})
		q.setHalf(api.Half{Pid: p.Pid, State: api.Linked})
	case "spawn_monitor":
		o.refs++
		p.Origins = append(p.Origins, api.Mon{Ref: int(o.refs), Pid: q.Pid})
		q.Targets = append(q.Targets, api.Mon{Ref: int(o.refs), Pid: p.Pid})
		told = tuple(told, ref(o.refs))
	}
	return told, ""
}

func (o *model) monitor(p *member, l []api.Term, full bool) (api.Term, string) {
	to, name := pidIn(l[1]), ""
	if l[1].Kind == api.KAtom {
		to, name = o.owner(l[1].S), l[1].S
	}
	self := to == p.Pid
	switch {
	case text(l[0]) != "process" || to == 0 && name == "":
		return api.Term{}, "badarg"
	case o.refs == int64(o.config.Refs) || full && !self:
		return api.Term{}, "system_limit"
	}
	o.refs++
	s := api.Signal{From: p.Pid, To: to, Kind: api.SMonitor, Ref: int(o.refs), Name: name}
	if to == 0 {
		s = api.Signal{To: p.Pid, Kind: api.SDown, Ref: int(o.refs), Term: atom("noproc")}
	}
	if !self {
		p.Origins = append(p.Origins, api.Mon{Ref: int(o.refs), Pid: to, Name: name})
		o.row = append(o.row, s)
	}
	return ref(o.refs), ""
}

func (o *model) demonitor(p *member, r, options api.Term, full bool) (api.Term, string) {
	wrong := func(x api.Term) bool { return text(x) != "flush" && text(x) != "info" }
	if r.Kind != api.KRef || options.Kind != api.KList || slices.ContainsFunc(options.L, wrong) {
		return api.Term{}, "badarg"
	}
	origins := p.Origins
	m, was := p.unwatch(int(r.N))
	if m.Pid != 0 && full {
		p.Origins = origins
		return api.Term{}, "system_limit"
	}
	if m.Pid != 0 {
		o.row = append(o.row, api.Signal{From: p.Pid, To: m.Pid, Kind: api.SDemonitor, Ref: m.Ref})
	}
	has := func(word string) bool {
		return slices.ContainsFunc(options.L, func(x api.Term) bool { return x.S == word })
	}
	if has("flush") && !was {
		p.Inbox = slices.DeleteFunc(p.Inbox, func(x api.Term) bool { return isDown(x, r) })
	}
	return yes(was || !has("info")), ""
}

func isDown(x, r api.Term) bool {
	return x.Kind == api.KTuple && len(x.L) == 5 && text(x.L[0]) == "'DOWN'" && text(x.L[1]) == text(r)
}

// pair is a VM and a model that do the same.
type pair struct {
	t      *testing.T
	source string
	v      *vm.VM
	o      *model
	done   []string
}

func newPair(t *testing.T, source string, c api.Config) *pair {
	t.Helper()
	v, err := vm.New(source, c)
	if err != nil {
		t.Fatalf("%s: %v", source, err)
	}
	return &pair{t: t, source: source, v: v, o: newModel(t, source, c)}
}

func (p *pair) do(x api.Step) {
	p.done = append(p.done, fmt.Sprint(x))
	p.v.Do(x)
	p.o.do(x)
}

func (p *pair) ask(by int, name string, l ...api.Term) api.Term {
	p.done = append(p.done, fmt.Sprint(by, name, each(l, text)))
	x, e := p.v.Ask(by, name, l...)
	y, word := p.o.ask(p.o.at(by), name, l)
	if text(x) != text(y) || e != api.OK && e.Error() != word || e == api.OK && word != "" {
		p.t.Errorf("T2 %d asks %s of %v: %s, %v; want %s, %s", by, name, each(l, text), text(x), e, text(y), word)
	}
	return x
}

// hold wants the state that the rules say.
func (p *pair) hold() {
	p.t.Helper()
	if got, want := stateText(p.v.State()), stateText(p.o.state()); got != want || p.v.Under() != len(p.o.row) || p.v.Procs() != len(p.o.procs) {
		p.t.Errorf("T2: %s; want %s", got, want)
	}
	if p.t.Failed() {
		p.t.Fatalf("of %s\nbehind %v", p.source, p.done)
	}
}
