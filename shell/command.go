package shell

import (
	"bollard/api"
)

// Kinds of a world's steps.
const (
	retain = 1 + iota
	compact
	tidy
	sweep
)

// command reads a line. It is what the line does, which is not to be done if the line is none.
func (p *player) command(l *reader) func() string {
	switch name := l.word(); name {
	case "tick":
		n := l.number()
		return func() string {
			p.w.Tick(n)
			return ""
		}
	case "cut":
		n := l.number()
		return func() string {
			p.w.Cut(n)
			return ""
		}
	case "retain":
		return p.step(retain, l.word(), l.number())
	case "compact":
		return p.step(compact, l.word(), l.number())
	case "tidy":
		return p.step(tidy, "", 0)
	case "sweep":
		return p.step(sweep, "", 0)
	case "crash":
		return p.crash(l)
	case "open":
		return p.open
	case "send":
		return p.send(l.number(), l.bytes())
	default:
		r := l.request(name, p.w.Now())
		return func() string {
			return answered(p.ask(r))
		}
	}
}

// ask asks the world for what a request says.
func (p *player) ask(r api.Request) api.Response {
	r.ID = p.asked
	p.asked++
	return p.w.Do(r)
}

// step is a step of upkeep.
func (p *player) step(kind int, topic string, part int) func() string {
	return func() string {
		done, e := p.w.Step(kind, topic, part)
		if e != api.OK {
			return refused(e)
		}
		return truth(done)
	}
}

// crash reads what a crash is told, and is that crash.
func (p *player) crash(l *reader) func() string {
	picks := l.numbers()
	l.mark("/")
	cuts := l.numbers()
	return func() string {
		if e := p.w.Crash(picks, cuts); e != api.OK {
			return refused(e)
		}
		return counted(fine)
	}
}

// open opens a connection.
func (p *player) open() string {
	n, e := p.w.Open()
	if e != api.OK {
		return refused(e)
	}
	return counted("conn", n)
}

// send feeds a connection.
func (p *player) send(conn int, b []byte) func() string {
	return func() string {
		told, e := p.w.Feed(conn, b)
		if e != api.OK {
			return refused(e)
		}
		return hexadecimal("bytes", told)
	}
}
