package locator

// pool keeps the things of one kind, numbered 0, 1, .. as they come. None ever leaves it, so no number comes again.
type pool[T any] struct {
	things []T
}

// add takes a thing in and answers its number.
func (p *pool[T]) add(thing T) int {
	p.things = append(p.things, thing)
	return len(p.things) - 1
}

// at answers where the thing of that number lies, till the next one is added; nil: there is none.
func (p *pool[T]) at(number int) *T {
	if number < 0 || number >= len(p.things) {
		return nil
	}
	return &p.things[number]
}

// size tells how many things there are.
func (p *pool[T]) size() int { return len(p.things) }
