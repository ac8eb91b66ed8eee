"""Well-made programs for the tests, made by throws."""

from kinds import Dice


class Maker:
    """Makes well-made programs by throws."""

    def __init__(self, seed):
        self.dice = Dice(seed)

    def program(self):
        shapes = [(params, params + self.dice.throw(2) + (params == 0)) for params in
                  [self.dice.throw(3) for f in range(1 + self.dice.throw(5))]]
        made = []
        for f, (params, many) in enumerate(shapes):
            free = 0 if f == len(shapes) - 1 else params
            boxes = list(range(free + 1, many + 1))
            made.append((params, many, self.body(many, boxes, [shape[0] for shape in shapes[:f]], 3)))
        return made

    def body(self, many, boxes, ahead, depth):
        return [self.statement(many, boxes, ahead, depth) for k in range(self.dice.throw(5))]

    def statement(self, many, boxes, ahead, depth):
        words = ["say"]
        words += ["set", "set", "part", "rest", "any"] if boxes else []
        words += ["call", "call"] if boxes and ahead else []
        words += ["if", "while", "while"] if depth > 0 else []
        word = self.dice.choice(words)
        if word == "say":
            return (word, self.claim(many))
        if word == "if":
            return (word, self.claim(many), self.body(many, boxes, ahead, depth - 1),
                    self.body(many, boxes, ahead, depth - 1))
        if word == "while":
            return (word, self.claim(many), self.body(many, boxes, ahead, depth - 1))
        x = self.dice.choice(boxes)
        if word == "any":
            lo = self.dice.throw(9) - 5
            return (word, x, self.dice.choice([lo, None]), self.dice.choice([lo + self.dice.throw(4), None]))
        if word == "call":
            f = self.dice.throw(len(ahead))
            return (word, x, f, [self.sum(many) for k in range(ahead[f])])
        if word == "set":
            return (word, x, self.sum(many))
        return (word, x, self.sum(many), 1 + self.dice.throw(4))

    def claim(self, many):
        word = self.dice.choice(["under", "same", "even"])
        return (word, self.sum(many)) + ((1 + self.dice.throw(3),) if word == "even" else ())

    def sum(self, many):
        return [self.dice.throw(7) - 3] + [self.dice.throw(4) - 1 for k in range(many)]


class Ringer(Maker):
    """Makes programs most places of which are reached: rings that are gone round some times and then left, calls."""

    def body(self, many, boxes, ahead, depth):
        made = super().body(many, boxes, ahead, depth)
        if depth == 3 and boxes and ahead:
            made.insert(0, self.call(many, boxes, ahead, len(ahead) - 1))
        return made

    def call(self, many, boxes, ahead, f):
        return ("call", self.dice.choice(boxes), f, [self.sum(many) for k in range(ahead[f])])

    def statement(self, many, boxes, ahead, depth):
        made = super().statement(many, boxes, ahead, depth)
        if made[0] != "while" or self.dice.throw(12) == 0:
            return made
        if not boxes:
            return ("say", made[1])
        x = self.dice.choice(boxes)
        step = self.dice.choice([-2, -1, 1, 1, 2, 3])
        far = self.dice.throw(30) - 3
        until = self.box(x, many, -far, 1) if step > 0 else self.box(x, many, -far, -1)
        inner = [one for one in made[2] if one[0] in ("say", "if", "while") or one[1] != x]
        return ("while", ("under", until), inner + [("set", x, self.box(x, many, step, 1))])

    def box(self, x, many, c, k):
        return [c] + [k if i == x else 0 for i in range(1, many + 1)]

    def sum(self, many):
        kind = self.dice.throw(6)
        if kind == 0:
            return super().sum(many)
        if kind == 1:
            return [self.dice.throw(9) - 4] + [0] * many
        x = 1 + self.dice.throw(many)
        made = self.box(x, many, self.dice.throw(15) - 7, self.dice.choice([-1, 1, 1, 1, 2]))
        if kind == 2:
            made[1 + self.dice.throw(many)] = -1
        return made


class Great(Ringer):
    """Makes programs with numbers as great as a program may have."""

    def sum(self, many):
        made = super().sum(many)
        if self.dice.throw(4) == 0:
            made[0] = self.dice.choice([-1, 1]) * 10 ** 100
        if self.dice.throw(4) == 0:
            made[1 + self.dice.throw(many)] = self.dice.choice([-1, 1]) * 10 ** 9
        return made
