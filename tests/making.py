"""Forms, webs and books made by a told chance, for tests that hold many of them against a plainer telling."""

NODES = ["ann", "bob", "cy", "dan", 0, 5, -7, 18, ("",), ("red",), ("ann",)]
BONDS = ["age", "knows", "likes"]
SHAPES = ["adult", "friend", "loner", "pal"]
BARE = [("any",), ("thing",), ("number",), ("said",)]


class Maker:
    """forms: how many forms may still come; a form with one in it is begun only where there is room for that."""

    def __init__(self, chance, shapes=None, most=40):
        self.chance = chance
        self.shapes = SHAPES if shapes is None else shapes
        self.forms = most

    def step(self):
        return self.chance.choice(["", "^"]) + self.chance.choice(BONDS)

    def plain(self, walked):
        choices = list(BARE)
        choices.append(("from", self.chance.randint(-20, 20)))
        choices.append(("upto", self.chance.choice([-10 ** 30 + 1, 0, 10 ** 30 - 1])))
        choices.append(("is", self.chance.choice(NODES)))
        choices.extend([("keeps", name) for name in self.shapes])
        if not walked:
            choices.append(("closed", tuple(sorted(self.chance.sample(BONDS, self.chance.randint(0, 3))))))
        return self.chance.choice(choices)

    def form(self, depth=1, walked=False):
        self.forms = self.forms - 1
        words = ["plain", "all", "some", "one", "none"]
        if depth < 8 and self.forms >= 1:
            words.extend(["not"] if walked else ["not", "many", "each"])
        word = self.chance.choice(words)
        if word == "plain":
            return self.plain(walked)
        if word == "not":
            return ("not", self.form(depth + 1, walked))
        if word in ("many", "each"):
            low = self.chance.choice([0, 0, 1, 2, 60])
            high = self.chance.choice([None, low, 60])
            return (word, low, high, self.step(), self.form(depth + 1, True))
        parts = []
        while depth < 8 and self.forms >= 1 and len(parts) < 6 and self.chance.randint(0, 3):
            parts.append(self.form(depth + 1, walked))
        return (word, tuple(parts))


def random_form(chance, shapes=None, most=40):
    return Maker(chance, shapes, most).form()
