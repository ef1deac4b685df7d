package shell

import (
	"bollard/api"
	"bollard/world"
)

// Player is what is kept from line to line: by it tests see what no answer tells.
type Player struct{ p *player }

// Begun is what a script begins with.
func Begun() Player { return Player{begun()} }

// Answer is what a line answers.
func (p Player) Answer(line string) string { return p.p.answer(line) }

// Asked is the ID of the next request.
func (p Player) Asked() int { return p.p.asked }

// Ask asks what a line would.
func (p Player) Ask(r api.Request) api.Response { return p.p.ask(r) }

// World is the world.
func (p Player) World() *world.World { return p.p.w }
